import Derived.Test.YtcbindgpbeaebaaGreatDoorPathA
import Derived.Laws.CopyOwn
import Derived.Lib.AppendZerosOnto
import Derived.Lib.Overlaps
import Derived.Deep.RegionLaw
namespace Go.Proofs.YtcbindgpbeaebaaGreatDoor
open Go.RowKit Go.Deep

section
variable {P : Program}
/-- One block is turned. -/
theorem grown_setRow (w : World) (g : Nat) (cs : Array Value) : w.grownBy (w.setRow g cs) (some g) :=
  ⟨rfl, rfl, rfl, by simp, fun k _ h => setRow_other w g k cs fun e => h (by rw [e])⟩

/-- copy, of elements of k cells, into a row that is known whole. -/
theorem run_copy_k (w : World) (dT sT ty elem : TypeId) (k g o dLen dCap : Nat) (a : Addr) (sLen sCap : Nat) (cur : Array Value) (t : TypeId) (cs : List Value)
    (hu : P.underlying dT = some (.slice elem)) (hs : (P.info? elem).map (·.size) = some k)
    (hg : w.heap[g]? = some (.cells cur t (0, 0))) (hn : cs.length = Nat.min sLen dLen * k)
    (hsrc : ∀ j v, cs[j]? = some v → w.cell? (a.add j) = some v) (hfit : o + cs.length ≤ cur.size) (h1 : ∀ v ∈ cs, v.oneCell' = true) :
    (Builtin.copy_ #[dT, sT] ty #[.slice (some ⟨g, o, none⟩) dLen dCap, .slice (some a) sLen sCap]).run P w =
      .ok (goInt (Nat.min sLen dLen)) (w.setRow g (cur.toList.take o ++ cs ++ cur.toList.drop (o + cs.length)).toArray) := by
  have hl := run_loadCells_list (P := P) w a cs hsrc
  have hst := run_storeCells_at P g o t cs 0 cur w hg (by simpa using hfit) h1
  cases hq : P.info? elem with
  | none => simp [hq] at hs
  | some i =>
    have hi : i.size = k := by simpa [hq] using hs
    simp [Builtin.copy_, run_underlying hu, Builtin.lenOf, Builtin.firstCells, sizeOf, typeInfo, hq, hi, ← hn, hl, hst]

/-- append, of elements of k cells, where there is room in a row that is known whole. -/
theorem run_append_k (w : World) (t ty e : TypeId) (k g sLen sCap n c : Nat) (sp : Option Addr) (cur : Array Value) (tt : TypeId) (cs : List Value)
    (hu : P.underlying t = some (.slice e)) (hs : (P.info? e).map (·.size) = some k)
    (hg : w.heap[g]? = some (.cells cur tt (0, 0))) (hn : cs.length = n * k) (hroom : sLen + n ≤ sCap)
    (hsrc : 0 < n → ∃ a, sp = some a ∧ ∀ j v, cs[j]? = some v → w.cell? (a.add j) = some v) (hfit : sLen * k + cs.length ≤ cur.size) (h1 : ∀ v ∈ cs, v.oneCell' = true) :
    (Builtin.append_ #[t, t] ty #[.slice (some ⟨g, 0, none⟩) sLen sCap, .slice sp n c]).run P w =
      .ok (.slice (some ⟨g, 0, none⟩) (sLen + n) sCap) (w.setRow g (cur.toList.take (sLen * k) ++ cs ++ cur.toList.drop (sLen * k + cs.length)).toArray) := by
  have hadd : (⟨g, 0, none⟩ : Addr).add (sLen * k) = ⟨g, sLen * k, none⟩ := by unfold Addr.add; split <;> simp_all
  have hst := run_storeCells_at P g (sLen * k) tt cs 0 cur w hg (by simpa using hfit) h1
  have hfc : (Builtin.firstCells k n (.slice sp n c)).run P w = .ok cs.toArray w := by
    by_cases h0 : n = 0
    · subst h0
      have hc : cs = [] := List.eq_nil_of_length_eq_zero (by simpa using hn)
      subst hc
      cases sp with
      | none => rfl
      | some a =>
        have := run_loadCells_list (P := P) w a [] (by simp)
        simpa [Builtin.firstCells] using this
    · obtain ⟨a, rfl, hsr⟩ := hsrc (by omega)
      have := run_loadCells_list (P := P) w a cs hsr
      rw [hn] at this
      simpa [Builtin.firstCells] using this
  cases hq : P.info? e with
  | none => simp [hq] at hs
  | some i =>
    have hi : i.size = k := by simpa [hq] using hs
    simp [Builtin.append_, run_underlying hu, Builtin.lenOf, sizeOf, typeInfo, hq, hi, hroom, hfc, hadd, hst]

/-- clear, of elements of k cells, in a row that is known whole. -/
theorem run_clear_k (w : World) (t ty e : TypeId) (g o n c : Nat) (z : Value) (cur : Array Value) (tt : TypeId)
    (hu : P.underlying t = some (.slice e)) (hv : ∀ w, (zeroValue e).run P w = .ok z w) (h0 : 0 < n)
    (hg : w.heap[g]? = some (.cells cur tt (0, 0))) (hfit : o + (Builtin.zeroCells z.cells n).toList.length ≤ cur.size) (h1 : ∀ v ∈ (Builtin.zeroCells z.cells n).toList, v.oneCell' = true) :
    (Builtin.clear_ #[t] ty #[.slice (some ⟨g, o, none⟩) n c]).run P w =
      .ok (.tuple #[]) (w.setRow g (cur.toList.take o ++ (Builtin.zeroCells z.cells n).toList ++ cur.toList.drop (o + (Builtin.zeroCells z.cells n).toList.length)).toArray) := by
  have hst := run_storeCells_at P g o tt (Builtin.zeroCells z.cells n).toList 0 cur w hg (by simpa using hfit) h1
  obtain ⟨m, rfl⟩ : ∃ m, n = m + 1 := ⟨n - 1, by omega⟩
  simp [Builtin.clear_, run_underlying hu, hv] at hst ⊢
  rw [hst]
  rfl

/-- The operations, where their run is known. -/
theorem wp_copy (w : World) {o : Oper} {a : Act} {K : Act → World → Prop} {Q : Exit → Act → World → Prop} (d s : Operand) (t t' : TypeId)
    (ho : o.op = .call { callee := .builtin .copy, args := #[d, s], argTypes := #[t, t'] }) (v u : Value) (hd : a.eval d = v) (hs : a.eval s = u) {v' : Value} {w' : World}
    (hr : (Builtin.copy_ #[t, t'] o.type #[v, u]).run P w = .ok v' w') (h : K (a.put o.dst v') w') : o.wp P a w K Q := by
  unfold Oper.wp execOp
  simp only [ho, resolve, invoke, builtin, Sem.run_bind, Sem.run_pure, Result.andThen_ok, List.map_toArray, List.map_cons, List.map_nil, hd, hs, hr]
  exact h
theorem wp_clear (w : World) {o : Oper} {a : Act} {K : Act → World → Prop} {Q : Exit → Act → World → Prop} (d : Operand) (t : TypeId)
    (ho : o.op = .call { callee := .builtin .clear, args := #[d], argTypes := #[t] }) (v : Value) (hd : a.eval d = v) {v' : Value} {w' : World}
    (hr : (Builtin.clear_ #[t] o.type #[v]).run P w = .ok v' w') (h : K (a.put o.dst v') w') : o.wp P a w K Q := by
  unfold Oper.wp execOp
  simp only [ho, resolve, invoke, builtin, Sem.run_bind, Sem.run_pure, Result.andThen_ok, List.map_toArray, List.map_cons, List.map_nil, hd, hr]
  exact h
theorem wpList_copy (w : World) {ops : Array Oper} {rest : List Oper} {o : Oper} {a : Act} {Q : Exit → Act → World → Prop} (hgd : o.guard = none) (d s : Operand) (t t' : TypeId)
    (ho : o.op = .call { callee := .builtin .copy, args := #[d, s], argTypes := #[t, t'] }) (v u : Value) (hd : a.eval d = v) (hs : a.eval s = u) {v' : Value} {w' : World}
    (hr : (Builtin.copy_ #[t, t'] o.type #[v, u]).run P w = .ok v' w') (h : wpList P ops Q rest (a.put o.dst v') w') : wpList P ops Q (o :: rest) a w :=
  wpList_plain hgd fun _ hK => wp_copy w d s t t' ho v u hd hs hr (hK _ _ h)
theorem wpList_clear (w : World) {ops : Array Oper} {rest : List Oper} {o : Oper} {a : Act} {Q : Exit → Act → World → Prop} (hgd : o.guard = none) (d : Operand) (t : TypeId)
    (ho : o.op = .call { callee := .builtin .clear, args := #[d], argTypes := #[t] }) (v : Value) (hd : a.eval d = v) {v' : Value} {w' : World}
    (hr : (Builtin.clear_ #[t] o.type #[v]).run P w = .ok v' w') (h : wpList P ops Q rest (a.put o.dst v') w') : wpList P ops Q (o :: rest) a w :=
  wpList_plain hgd fun _ hK => wp_clear w d t ho v hd hr (hK _ _ h)
theorem stp_copy {ops : Array Oper} {o : Oper} {a : Act} {w : World} {K : Act → World → Prop} {Q : Exit → Act → World → Prop} {E : Prop} (hg : o.guard = none) (d s : Operand) (t t' : TypeId)
    (ho : o.op = .call { callee := .builtin .copy, args := #[d, s], argTypes := #[t, t'] }) (v u : Value) (hd : a.eval d = v) (hs : a.eval s = u) {v' : Value} {w' : World}
    (hr : (Builtin.copy_ #[t, t'] o.type #[v, u]).run P w = .ok v' w') (hK : K (a.put o.dst v') w') : if Region.wanted o (yielded ops a.tmps) = true then Oper.wp P o a w K Q else E := by
  have hw : Region.wanted o (yielded ops a.tmps) = true := by simp [Region.wanted, hg]
  rw [if_pos hw]
  exact wp_copy w d s t t' ho v u hd hs hr hK
theorem stp_append {ops : Array Oper} {o : Oper} {a : Act} {w : World} {K : Act → World → Prop} {Q : Exit → Act → World → Prop} {E : Prop} (hg : o.guard = none) (d s : Operand) (t t' : TypeId)
    (ho : o.op = .call { callee := .builtin .append, args := #[d, s], argTypes := #[t, t'] }) (v u : Value) (hd : a.eval d = v) (hs : a.eval s = u) {v' : Value} {w' : World}
    (hr : (Builtin.append_ #[t, t'] o.type #[v, u]).run P w = .ok v' w') (hK : K (a.put o.dst v') w') : if Region.wanted o (yielded ops a.tmps) = true then Oper.wp P o a w K Q else E := by
  have hw : Region.wanted o (yielded ops a.tmps) = true := by simp [Region.wanted, hg]
  rw [if_pos hw]
  exact Lib.wp_append_run w d s t t' ho v u hd hs _ _ hr hK
end
end Go.Proofs.YtcbindgpbeaebaaGreatDoor

namespace Go.Proofs.YtcbindgpbeaebaaGreatDoor
open Go.RowKit Go.Deep

def zEn : Value := .agg #[.string ⟨#[]⟩, .int .i64 0, .string ⟨#[]⟩, .int .i64 0, .int .i64 0, .int .i64 0, .string ⟨#[]⟩]
theorem info_entry : (Tryz.prog.info? 191).map (fun i => (i.zero, i.size, i.bytes)) = some (some zEn, 7, 80) := by kernel_rfl
theorem size_entry : (Tryz.prog.info? 191).map (·.size) = some 7 := by kernel_rfl
theorem enC_one (p : Pl) : ∀ v ∈ enC p, v.oneCell' = true := by simp [enC, Value.oneCell']
theorem rowM_one (M : List Pl) : ∀ v ∈ rowM M, v.oneCell' = true := by
  intro v hv
  simp only [rowM, List.mem_flatMap] at hv
  obtain ⟨p, _, hp⟩ := hv
  exact enC_one p v hp
/-- What an insertion of an entry leaves. -/
def InsPost (w : World) (B : Nat) (ob : Option Nat) (N : List Pl) (e : Ending) (w' : World) : Prop :=
  ∃ v', e = .returned v' ∧ w'.ownsRow B 191 7 v' N.length (rowM N) ∧ w.grownBy w' ob ∧ ∀ g, v'.ownBlock = some g → ob = some g ∨ w.heap.size ≤ g

theorem cells_at {w : World} {b : Nat} {L : List Value} {t : TypeId} (h : w.heap[b]? = some (.cells L.toArray t (0, 0))) (o : Nat) : ∀ j v, (L.drop o)[j]? = some v → w.cell? ((⟨b, o, none⟩ : Addr).add j) = some v := by
  intro j v hj
  have hadd : (⟨b, o, none⟩ : Addr).add j = ⟨b, o + j, none⟩ := by unfold Addr.add; split <;> simp_all
  rw [hadd, cell_of_row w b (o + j) _ _ _ h]
  rw [List.getElem?_drop] at hj
  simpa using hj

theorem shift_splice {α : Type} (cur A D X : List α) (a k : Nat) (ha : A.length = a) (hX : X.length = k) (h : cur.take (a + D.length) = A ++ D) (hl : a + k + D.length ≤ cur.length) :
    (splice (splice cur (a + k) D) a X).take (a + k + D.length) = A ++ (X ++ D) := by
  have hA : cur.take a = A := by
    have h1 : (cur.take (a + D.length)).take a = cur.take a := by rw [List.take_take, Nat.min_eq_left (by omega)]
    rw [← h1, h, List.take_append_of_le_length (by omega), List.take_of_length_le (by omega)]
  have hT : (cur.take (a + k)).length = a + k := by rw [List.length_take]; omega
  have e1 : (splice cur (a + k) D).take a = A := by
    unfold splice
    rw [List.take_append_of_le_length (by omega), List.take_take, Nat.min_eq_left (by omega), hA]
  have e2 : (splice cur (a + k) D).drop (a + k) = D ++ cur.drop (a + k + D.length) := by
    unfold splice
    rw [List.drop_append, hT, Nat.sub_self, List.drop_of_length_le (by omega)]
    rfl
  rw [splice, e1, hX, e2, ← List.append_assoc X, ← List.append_assoc A, List.take_append_of_le_length (by simp; omega), List.take_of_length_le (by simp; omega)]
theorem grow_splice {α : Type} (R A D X : List α) (a k : Nat) (ha : A.length = a) (hX : X.length = k) (h : R.take a = A) :
    (splice (splice R a X) (a + k) D).take (a + k + D.length) = A ++ (X ++ D) := by
  have e1 : splice R a X = (A ++ X) ++ R.drop (a + k) := by
    rw [splice, h, hX, List.append_assoc]
  have e2 : (splice R a X).take (a + k) = A ++ X := by
    rw [e1, List.take_append_of_le_length (by simp; omega), List.take_of_length_le (by simp; omega)]
  have e3 : splice (splice R a X) (a + k) D = (A ++ (X ++ D)) ++ (splice R a X).drop (a + k + D.length) := by
    rw [splice, e2]
    simp
  rw [e3, List.take_append_of_le_length (by simp; omega), List.take_of_length_le (by simp; omega)]

set_option maxRecDepth 100000 in
set_option maxHeartbeats 3200000 in
theorem insert_end (w : World) (B : Nat) (v : Value) (M : List Pl) (x : Pl) (bx : Nat) (h : w.ownsRow B 191 7 v M.length (rowM M)) (hB : B ≤ w.heap.size) (hx : w.heap[bx]? = some (.cells (enC x).toArray 191 (0, 0))) (hm : M.length ≤ 1000) :
    Calls Tryz.prog 194 #[v, .int .i64 (M.length : Int), .slice (some ⟨bx, 0, none⟩) 1 1] w (InsPost w B v.ownBlock (M ++ [x])) := by
  obtain ⟨i0, hi0, hz0, hz1, hz2⟩ := info_parts info_entry
  obtain ⟨ob, hob⟩ : ∃ ob, ob = v.ownBlock := ⟨_, rfl⟩
  rw [← hob]
  have HOB := hide hob
  clear hob
  obtain ⟨ao, cap, rfl⟩ := row_form h
  have hcap : M.length ≤ cap := by
    rcases h.2 with ⟨h1, h2⟩ | ⟨g, cp, cur, h1, h2, h3, h4, h5, h6, h7⟩
    · omega
    · simp only [Value.slice.injEq] at h1
      omega
  have hsl : ∀ a, ao = some a → a = ⟨a.block, 0, none⟩ := fun a e => by
    subst e
    rcases h.2 with ⟨h1, h2⟩ | ⟨g, cp, cur, h1, _⟩
    · simp at h1
    · simp only [Value.slice.injEq, Option.some.injEq] at h1
      rw [h1.1]
  go_enter Tryz.func194, Tryz.ntmps194
  go_wp2_with (at_builtin; refine wpList_append_lies _ (by rfl) _ _ _ (by rfl) B 191 i0 _ 7 80 Tryz.underlying192 hi0 hz0 hz1 hz2 rfl (by omega) _ M.length (rowM M) (by rfl) h ⟨bx, 0, none⟩ 1 1 (enC x) (by rfl) (by rfl) (by simpa using cells_at hx 0) (enC_one x) (by omega) (by simp [maxLen]; omega) (by omega) hB _ rfl ?_; intro gg cp w1 hown1 hgrow hat hlt)
  all_goals
    go_ret
    refine ⟨_, rfl, ?_, by rw [unhide HOB]; exact hgrow, ?_⟩
    · rw [rowM_app, List.length_append]
      simpa [rowM] using hown1
    · intro g hg
      have e : gg = g := by simpa [Value.ownBlock] using hg
      subst e
      rcases hat with e | e
      · exact .inl ((unhide HOB).trans e)
      · exact .inr (by omega)

set_option maxRecDepth 100000 in
set_option maxHeartbeats 3200000 in
theorem insert_room (w : World) (B : Nat) (g cap : Nat) (M : List Pl) (i : Nat) (x : Pl) (bx : Nat) (h : w.ownsRow B 191 7 (.slice (some ⟨g, 0, none⟩) M.length cap) M.length (rowM M)) (hx : w.heap[bx]? = some (.cells (enC x).toArray 191 (0, 0))) (hne : bx ≠ g) (hi : i < M.length) (hm : M.length ≤ 1000) (hr : M.length + 1 ≤ cap) :
    Calls Tryz.prog 194 #[.slice (some ⟨g, 0, none⟩) M.length cap, .int .i64 (i : Int), .slice (some ⟨bx, 0, none⟩) 1 1] w (InsPost w B (some g) (M.take i ++ x :: M.drop i)) := by
  obtain ⟨cur, hg, hcm, hcs, hct, hbg⟩ : ∃ cur : Array Value, w.heap[g]? = some (.cells cur 191 (0, 0)) ∧ cap ≤ maxLen ∧ cur.size = cap * 7 ∧ cur.toList.take (M.length * 7) = rowM M ∧ B ≤ g := by
    rcases h.2 with ⟨h1, _⟩ | ⟨g', cp, cur, h1, h2, h3, h4, h5, h6, h7⟩
    · cases h1
    · simp only [Value.slice.injEq, Option.some.injEq, Addr.mk.injEq, and_true, true_and] at h1
      obtain ⟨rfl, rfl⟩ := h1
      exact ⟨cur, h3, h5, h6, h7, h2⟩
  have hc63 : cap ≤ 9223372036854775807 := by unfold maxLen at hcm; omega
  have hw1 : IntKind.i64.wrap ((i : Int) + 1) = (i : Int) + 1 := by rw [IntKind.wrap_i64]; omega
  have hb1 : (0 : Int) ≤ (i : Int) + 1 := by omega
  have htn : ((i : Int) + 1).toNat = i + 1 := by omega
  have hb2 : ¬ (cap = i + 1) := by omega
  have hb3 : (i : Int) ≤ (M.length : Int) + 1 := by omega
  have hb4 : ¬ (cap = i) := by omega
  have hov : ∀ lb cb, (callFunc 216 #[.slice (some ⟨bx, 0, none⟩) 1 1, .slice (some ⟨g, (i + 1) * 7, none⟩) lb cb]).run Tryz.prog w = .ok (.value (.bool false)) w := fun lb cb => by
    rw [run_callFunc_extern Tryz.func216 (by kernel_rfl) (by kernel_rfl) (by kernel_rfl) (e := Extern.SlicesOverlaps.overlaps #[192, 192] #[4]) (by kernel_rfl),
      Lib.run_overlaps_apart w 192 4 191 Tryz.underlying192 7 Tryz.sizeOf191 ⟨bx, 0, none⟩ ⟨g, (i + 1) * 7, none⟩ 1 1 lb cb hne 191 191 7 (cap * 7) (by simp [World.shape?, hx, enC]) (by simp [World.shape?, hg, hcs]) (by omega) (frozen_of_row _ _ _ _ _ hx) (frozen_of_row _ _ _ _ _ hx)]
    rfl
  have hdl : (rowM (M.drop i)).length = (M.length - i) * 7 := by rw [rowM_len, List.length_drop]
  have hsplit : rowM M = rowM (M.take i) ++ rowM (M.drop i) := by rw [← rowM_app, List.take_append_drop]
  have htl : (rowM (M.take i)).length = i * 7 := by rw [rowM_len, List.length_take, Nat.min_eq_left (by omega)]
  have hin : i ≤ M.length := by omega
  have hmin : Nat.min (M.length + 1 - i) (M.length - i) = M.length - i := by simp only [Nat.min_def]; split <;> omega
  have hg' : w.drew.heap[g]? = some (.cells cur.toList.toArray 191 (0, 0)) := hg
  have hcp1 : ∀ ty dc sc, (Builtin.copy_ #[192, 192] ty #[.slice (some ⟨g, (i + 1) * 7, none⟩) (M.length - i) dc, .slice (some ⟨g, i * 7, none⟩) (M.length + 1 - i) sc]).run Tryz.prog w.drew = .ok (goInt ((M.length - i : Nat) : Int)) (w.drew.setRow g (splice cur.toList ((i + 1) * 7) (rowM (M.drop i))).toArray) := fun ty dc sc => by
    have := run_copy_k (P := Tryz.prog) w.drew 192 192 ty 191 7 g ((i + 1) * 7) (M.length - i) dc ⟨g, i * 7, none⟩ (M.length + 1 - i) sc cur 191 (rowM (M.drop i)) Tryz.underlying192 size_entry hg (by rw [hdl, hmin])
      (fun j v hj => cells_at hg' (i * 7) j v (by
        have hjl : j < (M.length - i) * 7 := by rw [← hdl]; exact (List.getElem?_eq_some_iff.1 hj).1
        have e : (rowM M)[i * 7 + j]? = some v := by
          rw [hsplit, List.getElem?_append_right (by omega), htl, Nat.add_sub_cancel_left]
          exact hj
        rw [← hct, List.getElem?_take_of_lt (by omega)] at e
        rw [List.getElem?_drop]
        exact e)) (by rw [hdl, hcs]; omega) (rowM_one _)
    rw [this, hmin]
    simp [splice]
  obtain ⟨W1, hW1⟩ : ∃ W1, W1 = w.drew.setRow g (splice cur.toList ((i + 1) * 7) (rowM (M.drop i))).toArray := ⟨_, rfl⟩
  rw [← hW1] at hcp1
  have hg1 : W1.heap[g]? = some (.cells (splice cur.toList ((i + 1) * 7) (rowM (M.drop i))).toArray 191 (0, 0)) := by rw [hW1]; exact setRow_heap w.drew g _ _ _ _ hg
  have hx1 : W1.heap[bx]? = some (.cells (enC x).toArray 191 (0, 0)) := by rw [hW1, setRow_other _ _ _ _ hne]; exact hx
  have hsl1 : (splice cur.toList ((i + 1) * 7) (rowM (M.drop i))).length = cap * 7 := by
    have hcl : cur.toList.length = cap * 7 := by rw [Array.length_toList, hcs]
    rw [length_splice _ _ _ (by rw [hdl, hcl]; omega), hcl]
  have hmin2 : Nat.min 1 (M.length + 1 - i) = 1 := by simp only [Nat.min_def]; split <;> omega
  have hcp2 : ∀ ty dc, (Builtin.copy_ #[192, 192] ty #[.slice (some ⟨g, i * 7, none⟩) (M.length + 1 - i) dc, .slice (some ⟨bx, 0, none⟩) 1 1]).run Tryz.prog W1 = .ok (goInt 1) (W1.setRow g (splice (splice cur.toList ((i + 1) * 7) (rowM (M.drop i))) (i * 7) (enC x)).toArray) := fun ty dc => by
    have := run_copy_k (P := Tryz.prog) W1 192 192 ty 191 7 g (i * 7) (M.length + 1 - i) dc ⟨bx, 0, none⟩ 1 1 _ 191 (enC x) Tryz.underlying192 size_entry hg1 (by rw [hmin2]; rfl)
      (by simpa using cells_at hx1 0) (by rw [List.size_toArray, hsl1]; simp [enC]; omega) (enC_one _)
    rw [this, hmin2]
    simp [splice]
  have HG := hide hg
  have HX := hide hx
  have HG1 := hide hg1
  have HW1 := hide hW1
  clear hg hx h hg' hg1 hx1 hW1
  go_enter Tryz.func194, Tryz.ntmps194
  go_wp2_with (simp only [hov])
  go_region_law (refine stp_copy rfl _ _ 192 192 rfl _ _ (by simp [Act.eval, Act.put]) (by simp [Act.eval, Act.put]) (hcp1 _ _ _) ?_)
  go_wp2_with (at_builtin; refine wpList_copy _ rfl _ _ 192 192 rfl _ _ rfl rfl (hcp2 _ _) ?_)
  go_ret
  have hlN : (M.take i ++ x :: M.drop i).length = M.length + 1 := by simp; omega
  refine ⟨_, rfl, ⟨by rw [rowM_len], .inr ⟨g, cap, (splice (splice cur.toList ((i + 1) * 7) (rowM (M.drop i))) (i * 7) (enC x)).toArray, by rw [hlN]; rfl, hbg, ?_, by omega, hcm, ?_, ?_⟩⟩, ?_, fun g' hg' => .inl (by simpa [Value.ownBlock] using hg')⟩
  · exact setRow_heap W1 g _ _ _ _ (unhide HG1)
  · rw [List.size_toArray, length_splice _ _ _ (by rw [hsl1]; simp [enC]; omega), hsl1]
  · have hX : (enC x).length = 7 := rfl
    have hcl : cur.toList.length = cap * 7 := by rw [Array.length_toList, hcs]
    have := shift_splice cur.toList (rowM (M.take i)) (rowM (M.drop i)) (enC x) (i * 7) 7 htl hX (by rw [hdl, ← hsplit, ← hct]; congr 1; omega) (by rw [hdl, hcl]; omega)
    rw [hlN, rowM_app]
    show List.take _ (splice (splice cur.toList ((i + 1) * 7) (rowM (M.drop i))) (i * 7) (enC x)) = rowM (M.take i) ++ (enC x ++ rowM (M.drop i))
    rw [← this, hdl]
    have e : (i + 1) * 7 = i * 7 + 7 := by omega
    rw [e]
    congr 1
    omega
  · have := (grown_setRow w.drew g (splice cur.toList ((i + 1) * 7) (rowM (M.drop i))).toArray)
    rw [← unhide HW1] at this
    have h2 := this.trans (grown_setRow W1 g (splice (splice cur.toList ((i + 1) * 7) (rowM (M.drop i))) (i * 7) (enC x)).toArray)
    exact ⟨h2.os, h2.tape, h2.output, h2.size, h2.block⟩

set_option maxRecDepth 100000 in
set_option maxHeartbeats 3200000 in
theorem insert_grow (w : World) (B : Nat) (g cap : Nat) (M : List Pl) (i : Nat) (x : Pl) (bx : Nat) (h : w.ownsRow B 191 7 (.slice (some ⟨g, 0, none⟩) M.length cap) M.length (rowM M)) (hB : B ≤ w.heap.size) (hx : w.heap[bx]? = some (.cells (enC x).toArray 191 (0, 0))) (hi : i < M.length) (hm : M.length ≤ 1000) (hr : cap < M.length + 1) :
    Calls Tryz.prog 194 #[.slice (some ⟨g, 0, none⟩) M.length cap, .int .i64 (i : Int), .slice (some ⟨bx, 0, none⟩) 1 1] w (InsPost w B (some g) (M.take i ++ x :: M.drop i)) := by
  obtain ⟨i0, hi0, hz0, hzs, hzb⟩ := info_parts info_entry
  obtain ⟨cur, hg, hcm, hcs, hct, hcl⟩ : ∃ cur : Array Value, w.heap[g]? = some (.cells cur 191 (0, 0)) ∧ cap ≤ maxLen ∧ cur.size = cap * 7 ∧ cur.toList.take (M.length * 7) = rowM M ∧ M.length ≤ cap := by
    rcases h.2 with ⟨h1, _⟩ | ⟨g', cp, cur, h1, h2, h3, h4, h5, h6, h7⟩
    · cases h1
    · simp only [Value.slice.injEq, Option.some.injEq, Addr.mk.injEq, and_true, true_and] at h1
      obtain ⟨rfl, rfl⟩ := h1
      exact ⟨cur, h3, h5, h6, h7, h4⟩
  have hgl : g < w.heap.size := lt_of_heap hg
  have hxl : bx < w.heap.size := lt_of_heap hx
  have hdl : (rowM (M.drop i)).length = (M.length - i) * 7 := by rw [rowM_len, List.length_drop]
  have hsplit : rowM M = rowM (M.take i) ++ rowM (M.drop i) := by rw [← rowM_app, List.take_append_drop]
  have htl : (rowM (M.take i)).length = i * 7 := by rw [rowM_len, List.length_take, Nat.min_eq_left (by omega)]
  have hgA : w.drew.heap[g]? = some (.cells cur.toList.toArray 191 (0, 0)) := hg
  have hat : ∀ j v, (rowM M)[j]? = some v → cur.toList[j]? = some v := fun j v hj => by
    have hjl : j < M.length * 7 := by rw [← rowM_len]; exact (List.getElem?_eq_some_iff.1 hj).1
    rw [← hct, List.getElem?_take_of_lt hjl] at hj
    exact hj
  have hold : (Builtin.firstCells i0.size i (.slice (some ⟨g, 0, none⟩) i cap)).run Tryz.prog w.drew = .ok (rowM (M.take i)).toArray w.drew := by
    rw [hzs]
    exact run_firstCells_some w.drew 7 i ⟨g, 0, none⟩ i cap (rowM (M.take i)) htl (fun j v hj => cells_at hgA 0 j v (by
      rw [List.drop_zero]
      refine hat j v ?_
      rw [hsplit, List.getElem?_append_left (by rw [htl]; have := (List.getElem?_eq_some_iff.1 hj).1; omega)]
      exact hj))
  have hkk : (M.length : Int) + 1 - (i : Int) = ((M.length + 1 - i : Nat) : Int) := by omega
  have hik : i + (M.length + 1 - i) = M.length + 1 := by omega
  have hrz : ∀ ty, (Builtin.append_ #[192, 3] ty #[.slice (some ⟨g, 0, none⟩) i cap, .int .i64 ((M.length : Int) + 1 - (i : Int))]).run Tryz.prog w =
      .ok (.slice (some ⟨w.heap.size, 0, none⟩) (M.length + 1) (grownCap w (M.length + 1) cap 191)) (w.drew.alloc (.cells ((rowM (M.take i)).toArray ++ Builtin.zeroCells zEn.cells (M.length + 1 - i) ++ Builtin.zeroCells zEn.cells (grownCap w (M.length + 1) cap 191 - (M.length + 1))) 191)) := fun ty => by
    have h := Lib.run_append_grow_zeros w 192 3 ty 191 i0 _ .i64 .i64 Tryz.underlying192 Tryz.underlying3 hi0 hz0 (some ⟨g, 0, none⟩) i cap (rowM (M.take i)) hold (M.length + 1 - i) (by omega) (by omega) (by omega) (by omega) (by rw [hzb]; omega) (by rw [hzb, hik]; exact growslice_fits hr (by omega))
    rw [hik] at h
    rw [hkk]
    exact h
  obtain ⟨G, hG⟩ : ∃ G, G = grownCap w (M.length + 1) cap 191 := ⟨_, rfl⟩
  have hGn : M.length + 1 ≤ G := by rw [hG]; exact grownCap_ge w _ _ _
  have hGm : G ≤ maxLen := by
    have := grownCap_le_maxLen w (M.length + 1) cap 191 (by unfold maxLen; omega)
    rw [← hG] at this
    exact this
  have hG63 : G ≤ 9223372036854775807 := by unfold maxLen at hGm; omega
  obtain ⟨ROW, hROW⟩ : ∃ ROW : List Value, ROW = rowM (M.take i) ++ ((Builtin.zeroCells zEn.cells (M.length + 1 - i)).toList ++ (Builtin.zeroCells zEn.cells (G - (M.length + 1))).toList) := ⟨_, rfl⟩
  have hRl : ROW.length = G * 7 := by
    rw [hROW]
    simp [htl, Builtin.zeroCells, zEn, Value.cells]
    omega
  have hRt : ROW.take (i * 7) = rowM (M.take i) := by
    rw [hROW, List.take_append_of_le_length (by omega), List.take_of_length_le (by omega)]
  have hRA : (rowM (M.take i)).toArray ++ Builtin.zeroCells zEn.cells (M.length + 1 - i) ++ Builtin.zeroCells zEn.cells (G - (M.length + 1)) = ROW.toArray := by
    apply Array.toList_inj.1
    rw [hROW]
    simp
  rw [← hG, hRA] at hrz
  clear hRA hROW
  obtain ⟨W1, hW1⟩ : ∃ W1, W1 = w.drew.alloc (.cells ROW.toArray 191) := ⟨_, rfl⟩
  rw [← hW1] at hrz
  have hN1 : W1.heap[w.heap.size]? = some (.cells ROW.toArray 191 (0, 0)) := by rw [hW1]; exact heap_alloc_new w.drew _
  have hx1 : W1.heap[bx]? = some (.cells (enC x).toArray 191 (0, 0)) := by rw [hW1, Below.heap_alloc _ _ _ (by exact hxl)]; exact hx
  have hg1 : W1.heap[g]? = some (.cells cur.toList.toArray 191 (0, 0)) := by rw [hW1, Below.heap_alloc _ _ _ (by exact hgl)]; exact hg
  have hmin2 : Nat.min 1 (M.length + 1 - i) = 1 := by simp only [Nat.min_def]; split <;> omega
  have hcp1 : ∀ ty dc, (Builtin.copy_ #[192, 192] ty #[.slice (some ⟨w.heap.size, i * 7, none⟩) (M.length + 1 - i) dc, .slice (some ⟨bx, 0, none⟩) 1 1]).run Tryz.prog W1 = .ok (goInt 1) (W1.setRow w.heap.size (splice ROW (i * 7) (enC x)).toArray) := fun ty dc => by
    have := run_copy_k (P := Tryz.prog) W1 192 192 ty 191 7 w.heap.size (i * 7) (M.length + 1 - i) dc ⟨bx, 0, none⟩ 1 1 _ 191 (enC x) Tryz.underlying192 size_entry hN1 (by rw [hmin2]; rfl)
      (by simpa using cells_at hx1 0) (by rw [List.size_toArray, hRl]; simp [enC]; omega) (enC_one _)
    rw [this, hmin2]
    simp [splice]
  obtain ⟨W2, hW2⟩ : ∃ W2, W2 = W1.setRow w.heap.size (splice ROW (i * 7) (enC x)).toArray := ⟨_, rfl⟩
  rw [← hW2] at hcp1
  have hsl2 : (splice ROW (i * 7) (enC x)).length = G * 7 := by rw [length_splice _ _ _ (by rw [hRl]; simp [enC]; omega), hRl]
  have hN2 : W2.drew.heap[w.heap.size]? = some (.cells (splice ROW (i * 7) (enC x)).toArray 191 (0, 0)) := by rw [hW2]; exact setRow_heap W1 _ _ _ _ _ hN1
  have hg2 : W2.drew.heap[g]? = some (.cells cur.toList.toArray 191 (0, 0)) := by rw [hW2]; exact (setRow_other W1 _ _ _ (by omega)).trans hg1
  have hmin : Nat.min (M.length - i) (M.length - i) = M.length - i := by simp
  have hcp2 : ∀ ty dc sc, (Builtin.copy_ #[192, 192] ty #[.slice (some ⟨w.heap.size, (i + 1) * 7, none⟩) (M.length - i) dc, .slice (some ⟨g, i * 7, none⟩) (M.length - i) sc]).run Tryz.prog W2.drew = .ok (goInt ((M.length - i : Nat) : Int)) (W2.drew.setRow w.heap.size (splice (splice ROW (i * 7) (enC x)) ((i + 1) * 7) (rowM (M.drop i))).toArray) := fun ty dc sc => by
    have := run_copy_k (P := Tryz.prog) W2.drew 192 192 ty 191 7 w.heap.size ((i + 1) * 7) (M.length - i) dc ⟨g, i * 7, none⟩ (M.length - i) sc _ 191 (rowM (M.drop i)) Tryz.underlying192 size_entry hN2 (by rw [hdl, hmin])
      (fun j v hj => cells_at hg2 (i * 7) j v (by
        rw [List.getElem?_drop]
        refine hat _ v ?_
        rw [hsplit, List.getElem?_append_right (by omega), htl, Nat.add_sub_cancel_left]
        exact hj)) (by rw [List.size_toArray, hsl2, hdl]; omega) (rowM_one _)
    rw [this, hmin]
    simp [splice]
  have hw1 : IntKind.i64.wrap ((i : Int) + 1) = (i : Int) + 1 := by rw [IntKind.wrap_i64]; omega
  have hb1 : (0 : Int) ≤ (i : Int) + 1 := by omega
  have htn : ((i : Int) + 1).toNat = i + 1 := by omega
  have hb2 : ¬ (G = i + 1) := by omega
  have hb3 : (i : Int) ≤ (M.length : Int) := by omega
  have hb4 : ¬ (G = i) := by omega
  have hb5 : ¬ (cap = i) := by omega
  have hin : i ≤ M.length := by omega
  have hz3 : (cap : Int) < (M.length : Int) + 1 := by omega
  have HN2 := hide hN2
  have HW1 := hide hW1
  have HW2 := hide hW2
  clear hg hx h hold hkk hik hG hN1 hx1 hg1 hN2 hg2 hW1 hW2 hgA hat hct
  go_enter Tryz.func194, Tryz.ntmps194
  go_wp2_with (first
    | (at_builtin; refine Lib.wpList_append_run _ rfl _ _ _ _ rfl _ _ rfl rfl _ _ (hrz _) ?_)
    | (at_builtin; refine wpList_copy _ rfl _ _ 192 192 rfl _ _ rfl rfl (hcp1 _ _) ?_))
  go_region_law (refine stp_copy rfl _ _ 192 192 rfl _ _ (by simp [Act.eval, Act.put]) (by simp [Act.eval, Act.put]) (hcp2 _ _ _) ?_)
  go_wp2
  go_ret
  have hlN : (M.take i ++ x :: M.drop i).length = M.length + 1 := by simp; omega
  refine ⟨_, rfl, ⟨by rw [rowM_len], .inr ⟨w.heap.size, G, (splice (splice ROW (i * 7) (enC x)) ((i + 1) * 7) (rowM (M.drop i))).toArray, by rw [hlN]; rfl, hB, ?_, by omega, hGm, ?_, ?_⟩⟩, ?_, fun g' hg' => .inr (Nat.le_of_eq (by simpa [Value.ownBlock] using hg'))⟩
  · exact setRow_heap W2.drew _ _ _ _ _ (unhide HN2)
  · rw [List.size_toArray, length_splice _ _ _ (by rw [hsl2, hdl]; omega), hsl2]
  · have hX : (enC x).length = 7 := rfl
    have := grow_splice ROW (rowM (M.take i)) (rowM (M.drop i)) (enC x) (i * 7) 7 htl hX hRt
    rw [hlN, rowM_app]
    show List.take _ (splice (splice ROW (i * 7) (enC x)) ((i + 1) * 7) (rowM (M.drop i))) = rowM (M.take i) ++ (enC x ++ rowM (M.drop i))
    rw [← this, hdl]
    have e : (i + 1) * 7 = i * 7 + 7 := by omega
    rw [e]
    congr 1
    omega
  · have e1 : ∀ k, k < w.heap.size → W1.heap[k]? = w.heap[k]? := fun k hk => by rw [unhide HW1]; exact Below.heap_alloc w.drew _ _ hk
    have s1 : W1.heap.size = w.heap.size + 1 := by rw [unhide HW1]; exact World.size_alloc w.drew _
    have hW2 := unhide HW2
    refine ⟨by rw [hW2, unhide HW1]; rfl, by rw [hW2, unhide HW1]; rfl, by rw [hW2, unhide HW1]; rfl, ?_, fun k hk _ => ?_⟩
    · rw [size_setRow]
      show w.heap.size ≤ W2.heap.size
      rw [hW2, size_setRow, s1]; omega
    · rw [setRow_other _ _ _ _ (by omega)]
      show W2.heap[k]? = _
      rw [hW2, setRow_other _ _ _ _ (by omega), e1 k hk]
end Go.Proofs.YtcbindgpbeaebaaGreatDoor

namespace Go.Proofs.YtcbindgpbeaebaaGreatDoor
open Go.RowKit Go.Deep

/-- A map, with one thing put. -/
def insM : List Pl → Pl → List Pl
  | [], x => [x]
  | y :: r, x => if cmpB y.node.path x.node.path < 0 then y :: insM r x else if cmpB y.node.path x.node.path = 0 then x :: r else x :: y :: r
theorem insM_pos : ∀ (M : List Pl) (x : Pl) (i : Nat), IsPos M x.node.path i → insM M x = if thereAt M x.node.path i then M.set i x else M.take i ++ x :: M.drop i
  | [], x, i, h => by
    have : i = 0 := by have := h.le; simpa using this
    subst this
    simp [insM, thereAt]
  | y :: r, x, 0, h => by
    have h0 := h.hi 0 y (Nat.le_refl _) rfl
    have h1 : ¬ cmpB y.node.path x.node.path < 0 := by omega
    by_cases h2 : cmpB y.node.path x.node.path = 0
    · simp [insM, thereAt, h2]
    · simp [insM, thereAt, h1, h2]
  | y :: r, x, i + 1, h => by
    have h0 := h.lo 0 y (by omega) rfl
    have ih := insM_pos r x i ⟨by have := h.le; simpa using this, fun k p hk hp => h.lo (k + 1) p (by omega) (by simpa using hp), fun k p hk hp => h.hi (k + 1) p (by omega) (by simpa using hp)⟩
    have e : thereAt (y :: r) x.node.path (i + 1) = thereAt r x.node.path i := by simp [thereAt]
    rw [insM, if_pos h0, ih, e]
    split <;> simp

theorem rowM_set : ∀ (M : List Pl) (i : Nat) (p x : Pl), M[i]? = some p → p.node.path = x.node.path →
    (((((((rowM M).set (i * 7 + 1) (.int .i64 (x.slot : Int))).set (i * 7 + 2) (.string x.node.path)).set (i * 7 + 3) (.int .i64 x.node.kind)).set (i * 7 + 4) (.int .i64 x.node.mode)).set (i * 7 + 5) (.int .i64 x.node.tag)).set (i * 7 + 6) (.string x.node.data)) = rowM (M.set i x)
  | [], _, _, _, h, _ => by simp at h
  | y :: r, 0, p, x, h, hp => by
    simp at h; subst h
    simp [rowM, enC, hp]
  | y :: r, i + 1, p, x, h, hp => by
    have ih := rowM_set r i p x (by simpa using h) hp
    rw [show (i + 1) * 7 = i * 7 + 1 + 1 + 1 + 1 + 1 + 1 + 1 by omega]
    have e : rowM ((y :: r).set (i + 1) x) = enC y ++ rowM (r.set i x) := by simp [rowM]
    rw [e, ← ih]
    have e2 : rowM (y :: r) = enC y ++ rowM r := by simp [rowM]
    rw [e2]
    have e3 : ∀ (L : List Value) (k : Nat) (v : Value), (enC y ++ L).set (i * 7 + 1 + 1 + 1 + 1 + 1 + 1 + 1 + k) v = enC y ++ L.set (i * 7 + k) v := fun L k v => by
      rw [List.set_append_right _ _ (by simp [enC]; omega)]
      congr 2
      simp [enC]; omega
    rw [e3, e3, e3, e3, e3, e3]

/-- A cell of a row is written. -/
theorem row_set {w : World} {B g n cap : Nat} {e : TypeId} {k : Nat} {xs : List Value} (h : w.ownsRow B e k (.slice (some ⟨g, 0, none⟩) n cap) n xs) (j : Nat) (u : Value) : (w.setCell ⟨g, j, none⟩ u).ownsRow B e k (.slice (some ⟨g, 0, none⟩) n cap) n (xs.set j u) := by
  obtain ⟨h1, h2⟩ := h
  refine ⟨by simpa using h1, ?_⟩
  rcases h2 with ⟨h2, _⟩ | ⟨g', cp, cur, hv, hb, hg, a1, a2, a3, a4⟩
  · cases h2
  · simp only [Value.slice.injEq, Option.some.injEq, Addr.mk.injEq, and_true, true_and] at hv
    obtain ⟨rfl, rfl⟩ := hv
    refine .inr ⟨g, cap, cur.setIfInBounds j u, rfl, hb, heap_setCell_same w g j cur _ _ hg, a1, a2, by simpa using a3, ?_⟩
    rw [Array.toList_setIfInBounds, List.take_set, a4]

theorem grown_setCell (w : World) (g a : Nat) (v : Value) : w.grownBy (w.setCell ⟨g, a, none⟩ v) (some g) :=
  ⟨rfl, rfl, rfl, by simp [World.setCell], fun k _ h => Below.heap_setCell _ _ _ _ fun e => h (by rw [show k = g from e])⟩
theorem grown_drew {w w' : World} {r : Option Nat} (h : w.grownBy w' r) : w.grownBy w'.drew r := ⟨h.os, h.tape, h.output, h.size, h.block⟩
theorem grown_six (w : World) (g : Nat) (a b c d e f : Nat) (va vb vc vd ve vf : Value) :
    w.grownBy ((((((w.setCell ⟨g, a, none⟩ va).setCell ⟨g, b, none⟩ vb).setCell ⟨g, c, none⟩ vc).setCell ⟨g, d, none⟩ vd).setCell ⟨g, e, none⟩ ve).setCell ⟨g, f, none⟩ vf).drew (some g) :=
  grown_drew ((((((grown_setCell w g a va).trans (grown_setCell _ g b vb)).trans (grown_setCell _ g c vc)).trans (grown_setCell _ g d vd)).trans (grown_setCell _ g e ve)).trans (grown_setCell _ g f vf))

/-- What a change of a map leaves. -/
def MPost (w : World) (B bm : Nat) (ev : Value) (N : List Pl) (e : Ending) (w' : World) : Prop :=
  ∃ ev', e = .returned (.tuple #[]) ∧ MAt w' B bm ev' N ∧ DStep bm bm ev ev' w w'

/-- Insert, whichever way. -/
theorem insert_any (w : World) (B : Nat) (v : Value) (M : List Pl) (i : Nat) (x : Pl) (bx : Nat) (h : w.ownsRow B 191 7 v M.length (rowM M)) (hB : B ≤ w.heap.size) (hx : w.heap[bx]? = some (.cells (enC x).toArray 191 (0, 0))) (hne : v.ownBlock ≠ some bx) (hi : i ≤ M.length) (hm : M.length ≤ 1000) :
    Calls Tryz.prog 194 #[v, .int .i64 (i : Int), .slice (some ⟨bx, 0, none⟩) 1 1] w (InsPost w B v.ownBlock (M.take i ++ x :: M.drop i)) := by
  rcases Nat.lt_or_eq_of_le hi with hlt | rfl
  · obtain ⟨g, cap, rfl, _, _⟩ := h.form (by omega)
    by_cases hr : M.length + 1 ≤ cap
    · exact insert_room w B g cap M i x bx h hx (fun e => hne (by simp [Value.ownBlock, e])) hlt hm hr
    · exact insert_grow w B g cap M i x bx h hB hx hlt hm (by omega)
  · rw [List.take_length, List.drop_length]
    exact insert_end w B v M x bx h hB hx hm

/-- A map's list of entries is another one. -/
theorem mat_turn {w w1 wa w2 : World} {B bm : Nat} {ev v2 : Value} {M N : List Pl} (hba : Below w.heap.size w w1) (hM : MAt w B bm ev M) (hwa : Below w1.heap.size w1 wa)
    (ho2 : w2.ownsRow B 191 7 v2 N.length (rowM N)) (hg2 : wa.grownBy w2 ev.ownBlock) (hf2 : ∀ g, v2.ownBlock = some g → ev.ownBlock = some g ∨ wa.heap.size ≤ g) :
    MAt (w2.setCell ⟨bm, 0, none⟩ v2) B bm v2 N ∧ DStep bm bm ev v2 w (w2.setCell ⟨bm, 0, none⟩ v2) := by
  have hlt := hM.lt
  have s1 := hba.size
  have s2 := hwa.size
  have hne : ∀ g, v2.ownBlock = some g → g ≠ bm := fun g hg e => by
    rcases hf2 g hg with h | h
    · exact hM.ne (e ▸ h)
    · omega
  have hb : ∀ k, k < w.heap.size → ev.ownBlock ≠ some k → w2.heap[k]? = w.heap[k]? := fun k hk h => by
    rw [hg2.block k (by omega) (Ne.symm h), hwa.block k (by omega), hba.block k hk]
  refine ⟨⟨?_, ownsRow_kept ho2 fun g hg => Below.heap_setCell _ _ _ _ (hne g hg), hM.b0, fun e => hne _ e rfl⟩, ?_⟩
  · rw [heap_setCell_same w2 bm 0 #[ev] _ _ ((hb bm hlt hM.ne).trans hM.own)]
    simp
  · refine ⟨hg2.os.trans (hwa.os.trans hba.os), hg2.tape.trans (hwa.tape.trans hba.tape), hg2.output.trans (hwa.output.trans hba.output), ?_, fun k hk h1 _ h3 => ?_, fun g hg => ?_⟩
    · have := hg2.size; simp [World.setCell]; omega
    · rw [Below.heap_setCell _ _ _ _ h1]; exact hb k hk h3
    · rcases hf2 g hg with h | h
      · exact .inl h
      · exact .inr (by omega)

set_option maxRecDepth 100000 in
set_option maxHeartbeats 3200000 in
theorem mput_any (w : World) (B bm : Nat) (ev : Value) (M : List Pl) (x : Pl) (h : MAt w B bm ev M) (hB : B ≤ w.heap.size) (hord : Ord M) (hm : M.length ≤ 999) :
    Calls Tryz.prog 157 #[.pointer (some ⟨bm, 0, none⟩), .string x.node.path, plV x] w (MPost w B bm ev (insM M x)) := by
  unfold plV
  go_enter Tryz.func157, Tryz.ntmps157
  go_wp2_with fail
  refine (mfind_any _ B bm ev M x.node.path (h.below ((Below.refl _ _).alloc (Nat.le_refl _) _)) hord (by omega)).mono ?_
  rintro e w1 ⟨i, rfl, hi, hb⟩
  have hI := insM_pos M x i hi
  have hM := (h.below ((Below.refl _ _).alloc (Nat.le_refl _) _)).below hb
  have hb1 : Below (w.heap.size + 1) (w.alloc (.cells #[.int .i64 (x.slot : Int), .string x.node.path, .int .i64 x.node.kind, .int .i64 x.node.mode, .int .i64 x.node.tag, .string x.node.data] 148)) w1 := by simpa using hb
  have hc := hb1.block w.heap.size (by omega)
  rw [heap_alloc_new] at hc
  have hba : Below w.heap.size w w1 := ((Below.refl w.heap.size w).alloc (Nat.le_refl _) _).trans (hb1.mono (by omega))
  have hsz := hb1.size
  simp at hsz
  have c := fun j => cell_of_row w1.drew w.heap.size j _ _ _ hc
  have c0 := c 0
  have c1 := c 1
  have c2 := c 2
  have c3 := c 3
  have c4 := c 4
  have c5 := c 5
  simp at c0 c1 c2 c3 c4 c5
  clear c
  have mc : w1.cell? ⟨bm, 0, none⟩ = some ev := hM.cell
  have mf : w1.frozen? ⟨bm, 0, none⟩ = false := hM.fz 0
  have HB := hide hb1
  have HBA := hide hba
  have HC := hide hc
  clear hb hb1 hba hc
  cases ht : thereAt M x.node.path i
  · rw [ht] at hI
    have HI := hide (show insM M x = M.take i ++ x :: M.drop i from hI)
    clear hI
    have hev : ∀ g, ev.ownBlock = some g → g < w.heap.size := fun g hg => (h.row.lt g hg).2
    have hnx : ev.ownBlock ≠ some w1.heap.size := fun e => by have := hev _ e; omega
    have hnb : some w.heap.size ≠ ev.ownBlock := fun e => by have := hev _ e.symm; omega
    have hnm : some bm ≠ ev.ownBlock := Ne.symm hM.ne
    have hins := insert_any (w1.alloc (.cells #[.string x.node.path, .int .i64 (x.slot : Int), .string x.node.path, .int .i64 x.node.kind, .int .i64 x.node.mode, .int .i64 x.node.tag, .string x.node.data] 191)).drew B ev M i x w1.heap.size ((hM.row.alloc _).drew) (by simp; omega) (heap_alloc_new w1 _) hnx hi.le (by omega)
    have HIN := hide hins
    have HM := hide hM
    have hblk : ∀ (w2 : World), (w1.alloc (.cells #[.string x.node.path, .int .i64 (x.slot : Int), .string x.node.path, .int .i64 x.node.kind, .int .i64 x.node.mode, .int .i64 x.node.tag, .string x.node.data] 191)).drew.grownBy w2 ev.ownBlock → ∀ k, k < w1.heap.size → some k ≠ ev.ownBlock → w2.heap[k]? = w1.heap[k]? := fun w2 hg k hk hne => by
      rw [hg.block k (by simp; omega) hne]
      exact Below.heap_alloc w1 _ k hk
    have HBK := hide hblk
    have hal : ∀ (a : Addr) (v : Value), w1.cell? a = some v → (w1.alloc (.cells #[.string x.node.path, .int .i64 (x.slot : Int), .string x.node.path, .int .i64 x.node.kind, .int .i64 x.node.mode, .int .i64 x.node.tag, .string x.node.data] 191)).cell? a = some v := fun a v hv =>
      (World.cell?_of_block (Below.heap_alloc w1 _ _ (World.block_lt_of_cell? w1 _ hv))).trans hv
    have a0 := hal _ _ c0
    have a1 := hal _ _ c1
    have a2 := hal _ _ c2
    have a3 := hal _ _ c3
    have a4 := hal _ _ c4
    have a5 := hal _ _ c5
    have a6 := hal _ _ mc
    clear hal
    clear hM hins hblk
    have hil := hi.le
    have hbm : bm < w.heap.size := h.lt
    have hbn : ¬ bm = w1.heap.size := by omega
    have hbn2 : ¬ w.heap.size = w1.heap.size := by omega
    go_wp2_with fail
    go_region_with ((go_at_call 194; refine (unhide HIN).mono ?_; rintro e w2 ⟨v2, rfl, ho2, hg2, hf2⟩; obtain ⟨ao2, cap2, hv2⟩ := row_form ho2; subst hv2; have hb2 := (unhide HBK) w2 hg2; have s0 := (World.cell?_of_block (a := ⟨bm, 0, none⟩) (hb2 bm (by omega) hnm)).trans mc; have s1 := (World.frozen?_of_block (a := ⟨bm, 0, none⟩) (hb2 bm (by omega) hnm)).trans mf; have s2 := (World.cell?_of_block (a := ⟨w.heap.size, 0, none⟩) (hb2 w.heap.size (by omega) hnb)).trans c0; have s3 := (World.cell?_of_block (a := ⟨w.heap.size, 1, none⟩) (hb2 w.heap.size (by omega) hnb)).trans c1; have s4 := (World.cell?_of_block (a := ⟨w.heap.size, 2, none⟩) (hb2 w.heap.size (by omega) hnb)).trans c2; have s5 := (World.cell?_of_block (a := ⟨w.heap.size, 3, none⟩) (hb2 w.heap.size (by omega) hnb)).trans c3; have s6 := (World.cell?_of_block (a := ⟨w.heap.size, 4, none⟩) (hb2 w.heap.size (by omega) hnb)).trans c4; have s7 := (World.cell?_of_block (a := ⟨w.heap.size, 5, none⟩) (hb2 w.heap.size (by omega) hnb)).trans c5; have HO2 := hide ho2; have HG2 := hide hg2; have HF2 := hide hf2; have HB2 := hide hb2; clear ho2 hg2 hf2 hb2))
    all_goals
      go_returns
      have ht := mat_turn (unhide HBA) h (wa := (w1.alloc (.cells #[.string x.node.path, .int .i64 (x.slot : Int), .string x.node.path, .int .i64 x.node.kind, .int .i64 x.node.mode, .int .i64 x.node.tag, .string x.node.data] 191)).drew) (((Below.refl _ w1).alloc (Nat.le_refl _) _).drew) (unhide HO2) (unhide HG2) (unhide HF2)
      refine ⟨.slice ao2 (i + (M.length - i + 1)) cap2, rfl, ?_⟩
      rw [unhide HI]
      have hl : (M.take i ++ x :: M.drop i).length = i + (M.length - i + 1) := by simp; omega
      rw [hl] at ht
      exact ht
  · rw [ht] at hI
    have HI := hide (show insM M x = M.set i x from hI)
    clear hI
    have hil : i < M.length := by
      unfold thereAt at ht
      cases hq : M[i]? with
      | none => rw [hq] at ht; cases ht
      | some p => exact (List.getElem?_eq_some_iff.1 hq).1
    obtain ⟨p, hp⟩ : ∃ p, M[i]? = some p := ⟨_, List.getElem?_eq_getElem hil⟩
    have hpe : p.node.path = x.node.path := by
      unfold thereAt at ht
      rw [hp] at ht
      exact cmpB_zero (by simpa using ht)
    obtain ⟨g, cap, rfl, ⟨d0, d1, d2, d3, d4, d5, d6⟩, hgl⟩ := row7_at hM.row i p hp
    have i0 : (0 : Int) ≤ (i : Int) := Int.natCast_nonneg _
    have i1 : (i : Int) < (M.length : Int) := by omega
    have fr : ∀ j, w1.frozen? ⟨g, j, none⟩ = false := fun j => by
      rcases hM.row.2 with ⟨h2, _⟩ | ⟨g', cp, cur, hv, hb', hg', _⟩
      · cases h2
      · simp only [Value.slice.injEq, Option.some.injEq, Addr.mk.injEq, and_true, true_and] at hv
        obtain ⟨rfl, rfl⟩ := hv
        exact frozen_of_row w1 g j _ _ hg'
    have f1 := fr (i * 7 + 1)
    have f2 := fr (i * 7 + 1 + 1)
    have f3 := fr (i * 7 + 1 + 2)
    have f4 := fr (i * 7 + 1 + 3)
    have f5 := fr (i * 7 + 1 + 4)
    have f6 := fr (i * 7 + 1 + 5)
    have e1 : w1.cell? ⟨g, i * 7 + 1, none⟩ = some (.int .i64 (p.slot : Int)) := d1
    have e2 : w1.cell? ⟨g, i * 7 + 1 + 1, none⟩ = some (.string p.node.path) := d2
    have e3 : w1.cell? ⟨g, i * 7 + 1 + 2, none⟩ = some (.int .i64 p.node.kind) := d3
    have e4 : w1.cell? ⟨g, i * 7 + 1 + 3, none⟩ = some (.int .i64 p.node.mode) := d4
    have e5 : w1.cell? ⟨g, i * 7 + 1 + 4, none⟩ = some (.int .i64 p.node.tag) := d5
    have e6 : w1.cell? ⟨g, i * 7 + 1 + 5, none⟩ = some (.string p.node.data) := d6
    have HM := hide hM
    have HP := hide hp
    have HPE := hide hpe
    clear hM hp hpe d0 d1 d2 d3 d4 d5 d6 fr
    go_wp2_with fail
    go_region
    go_wp2_with fail
    go_returns
    have hM := unhide HM
    have hne : ¬ bm = g := fun e => hM.ne (by simp [Value.ownBlock, e])
    have hl : (M.set i x).length = M.length := List.length_set
    have hgr := grown_six w1 g (i * 7 + 1) (i * 7 + 1 + 1) (i * 7 + 1 + 2) (i * 7 + 1 + 3) (i * 7 + 1 + 4) (i * 7 + 1 + 5) (.int .i64 (x.slot : Int)) (.string x.node.path) (.int .i64 x.node.kind) (.int .i64 x.node.mode) (.int .i64 x.node.tag) (.string x.node.data)
    refine ⟨.slice (some ⟨g, 0, none⟩) M.length cap, rfl, ⟨?_, ?_, hM.b0, hM.ne⟩, ?_⟩
    · exact (hgr.block bm hM.lt (by simp [hne])).trans hM.own
    · have hs := rowM_set M i p x (unhide HP) (unhide HPE)
      rw [show i * 7 + 2 = i * 7 + 1 + 1 from rfl, show i * 7 + 3 = i * 7 + 1 + 2 from rfl, show i * 7 + 4 = i * 7 + 1 + 3 from rfl, show i * 7 + 5 = i * 7 + 1 + 4 from rfl, show i * 7 + 6 = i * 7 + 1 + 5 from rfl] at hs
      rw [unhide HI, hl, ← hs]
      exact (row_set (row_set (row_set (row_set (row_set (row_set hM.row (i * 7 + 1) _) (i * 7 + 1 + 1) _) (i * 7 + 1 + 2) _) (i * 7 + 1 + 3) _) (i * 7 + 1 + 4) _) (i * 7 + 1 + 5) _).drew
    · have hba := unhide HBA
      exact ⟨hgr.os.trans hba.os, hgr.tape.trans hba.tape, hgr.output.trans hba.output, Nat.le_trans hba.size hgr.size, fun k hk h1 _ h3 => (hgr.block k (by omega) (fun e => h3 (by simp [Value.ownBlock]; simpa using e.symm))).trans (hba.block k hk), fun q hq => .inl hq⟩
end Go.Proofs.YtcbindgpbeaebaaGreatDoor

namespace Go.Proofs.YtcbindgpbeaebaaGreatDoor
open Go.RowKit Go.Deep

theorem zero_cells : (Builtin.zeroCells zEn.cells 1).toList = [.string ⟨#[]⟩, .int .i64 0, .string ⟨#[]⟩, .int .i64 0, .int .i64 0, .int .i64 0, .string ⟨#[]⟩] := by kernel_rfl
theorem zero_entry : ∀ w, (zeroValue 191).run Tryz.prog w = .ok zEn w := Tryz.zeroValue191

set_option maxRecDepth 100000 in
set_option maxHeartbeats 3200000 in
theorem sdelete_any (w : World) (B : Nat) (g cap : Nat) (M : List Pl) (i : Nat) (h : w.ownsRow B 191 7 (.slice (some ⟨g, 0, none⟩) M.length cap) M.length (rowM M)) (hi : i < M.length) (hm : M.length ≤ 1000) :
    Calls Tryz.prog 212 #[.slice (some ⟨g, 0, none⟩) M.length cap, .int .i64 (i : Int), .int .i64 ((i : Int) + 1)] w (InsPost w B (some g) (M.take i ++ M.drop (i + 1))) := by
  obtain ⟨cur, hg, hcm, hcs, hct, hbg, hnc⟩ : ∃ cur : Array Value, w.heap[g]? = some (.cells cur 191 (0, 0)) ∧ cap ≤ maxLen ∧ cur.size = cap * 7 ∧ cur.toList.take (M.length * 7) = rowM M ∧ B ≤ g ∧ M.length ≤ cap := by
    rcases h.2 with ⟨h1, _⟩ | ⟨g', cp, cur, h1, h2, h3, h4, h5, h6, h7⟩
    · cases h1
    · simp only [Value.slice.injEq, Option.some.injEq, Addr.mk.injEq, and_true, true_and] at h1
      obtain ⟨rfl, rfl⟩ := h1
      exact ⟨cur, h3, h5, h6, h7, h2, h4⟩
  have hc63 : cap ≤ 9223372036854775807 := by unfold maxLen at hcm; omega
  obtain ⟨m, hmm⟩ : ∃ m, m = M.length - (i + 1) := ⟨_, rfl⟩
  have hdl : (rowM (M.drop (i + 1))).length = m * 7 := by rw [rowM_len, List.length_drop, hmm]
  have hsplit : rowM M = rowM (M.take (i + 1)) ++ rowM (M.drop (i + 1)) := by rw [← rowM_app, List.take_append_drop]
  have htl1 : (rowM (M.take (i + 1))).length = (i + 1) * 7 := by rw [rowM_len, List.length_take, Nat.min_eq_left (by omega)]
  have hcl : cur.toList.length = cap * 7 := by rw [Array.length_toList, hcs]
  have hgA : w.drew.heap[g]? = some (.cells cur.toList.toArray 191 (0, 0)) := hg
  have hap : ∀ ty sp c, (0 < m → sp = some ⟨g, (i + 1) * 7, none⟩) → (Builtin.append_ #[192, 192] ty #[.slice (some ⟨g, 0, none⟩) i cap, .slice sp m c]).run Tryz.prog w.drew = .ok (.slice (some ⟨g, 0, none⟩) (i + m) cap) (w.drew.setRow g (splice cur.toList (i * 7) (rowM (M.drop (i + 1)))).toArray) := fun ty sp c hsp => by
    have := run_append_k (P := Tryz.prog) w.drew 192 ty 191 7 g i cap m c sp cur 191 (rowM (M.drop (i + 1))) Tryz.underlying192 size_entry hg hdl (by omega)
      (fun h0 => ⟨_, hsp h0, fun j v hj => cells_at hgA ((i + 1) * 7) j v (by
        have hjl : j < m * 7 := by rw [← hdl]; exact (List.getElem?_eq_some_iff.1 hj).1
        have e : (rowM M)[(i + 1) * 7 + j]? = some v := by
          rw [hsplit, List.getElem?_append_right (by omega), htl1, Nat.add_sub_cancel_left]
          exact hj
        rw [← hct, List.getElem?_take_of_lt (by omega)] at e
        rw [List.getElem?_drop]
        exact e)⟩) (by rw [hdl, hcs]; omega) (rowM_one _)
    rw [this]
    simp [splice]
  have him : i + m + 1 = M.length := by omega
  obtain ⟨W1, hW1⟩ : ∃ W1, W1 = w.drew.setRow g (splice cur.toList (i * 7) (rowM (M.drop (i + 1)))).toArray := ⟨_, rfl⟩
  rw [← hW1] at hap
  have hsl1 : (splice cur.toList (i * 7) (rowM (M.drop (i + 1)))).length = cap * 7 := by rw [length_splice _ _ _ (by rw [hdl, hcl]; omega), hcl]
  have hg1 : W1.heap[g]? = some (.cells (splice cur.toList (i * 7) (rowM (M.drop (i + 1)))).toArray 191 (0, 0)) := by rw [hW1]; exact setRow_heap w.drew g _ _ _ _ hg
  have hzl : (Builtin.zeroCells zEn.cells 1).toList.length = 7 := by rw [zero_cells]; rfl
  have hcl1 : ∀ ty c, (Builtin.clear_ #[192] ty #[.slice (some ⟨g, (i + m) * 7, none⟩) 1 c]).run Tryz.prog W1 = .ok (.tuple #[]) (W1.setRow g (splice (splice cur.toList (i * 7) (rowM (M.drop (i + 1)))) ((i + m) * 7) (Builtin.zeroCells zEn.cells 1).toList).toArray) := fun ty c => by
    have := run_clear_k (P := Tryz.prog) W1 192 ty 191 g ((i + m) * 7) 1 c zEn _ 191 Tryz.underlying192 zero_entry (by omega) hg1 (by rw [List.size_toArray, hsl1, hzl]; omega) (by rw [zero_cells]; simp [Value.oneCell'])
    rw [this]
    simp [splice]
  have hw1 : IntKind.i64.wrap ((i : Int) + 1) = (i : Int) + 1 := by rw [IntKind.wrap_i64]; omega
  have hb0 : ¬ ((i : Int) = (i : Int) + 1) := by omega
  have hb1 : (0 : Int) ≤ (i : Int) + 1 := by omega
  have htn : ((i : Int) + 1).toNat = i + 1 := by omega
  have hb3 : (i : Int) + 1 ≤ (M.length : Int) := by omega
  have hb4 : ¬ (cap = i) := by omega
  have hb5 : (i : Int) ≤ (i : Int) + 1 := by omega
  have HG1 := hide hg1
  have HW1 := hide hW1
  have HCT := hide hct
  have hmi : M.length - (i + 1) = m := hmm.symm
  clear hg h hgA hg1 hW1 hct hmm
  have hlN : (M.take i ++ M.drop (i + 1)).length = i + m := by simp; omega
  have htl : (rowM (M.take i)).length = i * 7 := by rw [rowM_len, List.length_take, Nat.min_eq_left (by omega)]
  have fin : InsPost w B (some g) (M.take i ++ M.drop (i + 1)) (.returned (.slice (some ⟨g, 0, none⟩) (i + m) cap)) (W1.setRow g (splice (splice cur.toList (i * 7) (rowM (M.drop (i + 1)))) ((i + m) * 7) (Builtin.zeroCells zEn.cells 1).toList).toArray) := by
    refine ⟨_, rfl, ⟨by rw [rowM_len], .inr ⟨g, cap, _, by rw [hlN], hbg, setRow_heap W1 g _ _ _ _ (unhide HG1), by omega, hcm, ?_, ?_⟩⟩, ?_, fun g' hg' => .inl (by simpa [Value.ownBlock] using hg')⟩
    · rw [List.size_toArray, length_splice _ _ _ (by rw [hsl1, hzl]; omega), hsl1]
    · rw [hlN, rowM_app]
      show List.take _ (splice (splice cur.toList (i * 7) (rowM (M.drop (i + 1)))) ((i + m) * 7) (Builtin.zeroCells zEn.cells 1).toList) = _
      have hA : cur.toList.take (i * 7) = rowM (M.take i) := by
        have h1 : (cur.toList.take (M.length * 7)).take (i * 7) = cur.toList.take (i * 7) := by rw [List.take_take, Nat.min_eq_left (by omega)]
        rw [← h1, unhide HCT, show rowM M = rowM (M.take i) ++ rowM (M.drop i) by rw [← rowM_app, List.take_append_drop], List.take_append_of_le_length (by omega), List.take_of_length_le (by omega)]
      have e1 : (splice cur.toList (i * 7) (rowM (M.drop (i + 1)))).take ((i + m) * 7) = rowM (M.take i) ++ rowM (M.drop (i + 1)) := by
        rw [splice, hA, ← List.append_assoc, List.take_append_of_le_length (by rw [List.length_append, htl, hdl]; omega), List.take_of_length_le (by rw [List.length_append, htl, hdl]; omega)]
      rw [splice, e1, List.take_append_of_le_length (by rw [List.length_append, htl, hdl]; omega), List.take_of_length_le (by rw [List.length_append, htl, hdl]; omega)]
    · have := grown_setRow w.drew g (splice cur.toList (i * 7) (rowM (M.drop (i + 1)))).toArray
      rw [← unhide HW1] at this
      have h2 := this.trans (grown_setRow W1 g (splice (splice cur.toList (i * 7) (rowM (M.drop (i + 1)))) ((i + m) * 7) (Builtin.zeroCells zEn.cells 1).toList).toArray)
      exact ⟨h2.os, h2.tape, h2.output, h2.size, h2.block⟩
  obtain ⟨Z, hZ⟩ : ∃ Z, Z = (Builtin.zeroCells zEn.cells 1).toList := ⟨_, rfl⟩
  rw [← hZ] at fin hcl1 hzl
  clear hZ
  have HF := hide fin
  clear fin
  have hc0 : ¬ (cap = i + m) := by omega
  have hic : i ≤ cap := by omega
  have hs1 : M.length - (i + m) = 1 := by omega
  have hs2 : (i : Int) + (m : Int) ≤ (M.length : Int) := by omega
  by_cases hc1 : cap = i + 1
  · subst hc1
    have hm0 : m = 0 := by omega
    have hap1 : ∀ ty c, (Builtin.append_ #[192, 192] ty #[.slice (some ⟨g, 0, none⟩) i (i + 1), .slice (some ⟨g, 0, none⟩) m c]).run Tryz.prog w.drew = .ok (.slice (some ⟨g, 0, none⟩) (i + m) (i + 1)) W1 := fun ty c => hap ty _ c (fun h => by omega)
    have HM0 := hide hm0
    clear hm0 hap
    go_enter Tryz.func212, Tryz.ntmps212
    go_wp2_with fail
    go_region_law (refine stp_append rfl _ _ 192 192 rfl (.slice (some ⟨g, 0, none⟩) i (i + 1)) (.slice (some ⟨g, 0, none⟩) m 0) (by simp [Act.eval, Act.put]) (by simp [Act.eval, Act.put]) (hap1 _ _) ?_)
    go_wp2_with (at_builtin; refine wpList_clear _ rfl _ 192 rfl _ rfl (hcl1 _ _) ?_)
    go_ret
    have hf := unhide HF
    exact hf
  · have hap2 : ∀ ty c, (Builtin.append_ #[192, 192] ty #[.slice (some ⟨g, 0, none⟩) i cap, .slice (some ⟨g, (i + 1) * 7, none⟩) m c]).run Tryz.prog w.drew = .ok (.slice (some ⟨g, 0, none⟩) (i + m) cap) W1 := fun ty c => hap ty _ c (fun _ => rfl)
    clear hap
    go_enter Tryz.func212, Tryz.ntmps212
    go_wp2_with fail
    go_region_law (refine stp_append rfl _ _ 192 192 rfl (.slice (some ⟨g, 0, none⟩) i cap) (.slice (some ⟨g, (i + 1) * 7, none⟩) m (cap - (i + 1))) (by simp [Act.eval, Act.put]) (by simp [Act.eval, Act.put]) (hap2 _ _) ?_)
    go_wp2_with (at_builtin; refine wpList_clear _ rfl _ 192 rfl _ rfl (hcl1 _ _) ?_)
    go_ret
    have hf := unhide HF
    exact hf

/-- A map, without what is at a path. -/
def delM (M : List Pl) (q : ByteArray) : List Pl := M.filter fun p => !(cmpB p.node.path q == 0)
theorem delM_pos {M : List Pl} {q : ByteArray} {i : Nat} (hord : Ord M) (hi : IsPos M q i) : delM M q = if thereAt M q i then M.take i ++ M.drop (i + 1) else M := by
  have hg := getM_pos hord hi
  cases ht : thereAt M q i
  · rw [ht] at hg
    have hn : getM M q = none := by simpa using hg
    unfold getM at hn
    rw [List.find?_eq_none] at hn
    unfold delM
    simp only [Bool.false_eq_true, if_false]
    rw [List.filter_eq_self]
    intro p hp
    have := hn p hp
    simpa using this
  · have hil : i < M.length := by
      unfold thereAt at ht
      cases hq : M[i]? with
      | none => rw [hq] at ht; cases ht
      | some p => exact (List.getElem?_eq_some_iff.1 hq).1
    have hp : cmpB M[i].node.path q = 0 := by
      unfold thereAt at ht
      rw [List.getElem?_eq_getElem hil] at ht
      simpa using ht
    have e0 : M[i].node.path = q := cmpB_zero hp
    have hsp : M = M.take i ++ (M[i] :: M.drop (i + 1)) := by
      have := List.take_append_drop i M
      rw [List.drop_eq_getElem_cons hil] at this
      exact this.symm
    simp only [if_true]
    unfold delM
    conv => lhs; rw [hsp]
    rw [List.filter_append, List.filter_cons]
    have h0 : (!(cmpB M[i].node.path q == 0)) = false := by simp [hp]
    rw [h0]
    simp only [Bool.false_eq_true, if_false]
    congr 1
    · rw [List.filter_eq_self]
      intro p hpm
      obtain ⟨k, hk⟩ := List.getElem?_of_mem hpm
      rw [List.getElem?_take] at hk
      split at hk
      · next h => have := hi.lo k p h hk; simp; omega
      · cases hk
    · rw [List.filter_eq_self]
      intro p hpm
      obtain ⟨k, hk⟩ := List.getElem?_of_mem hpm
      rw [List.getElem?_drop] at hk
      have h1 := hord.at (List.getElem?_eq_getElem hil) hk (by omega)
      rw [e0] at h1
      have := cmpB_swap q p.node.path
      simp; omega

set_option maxRecDepth 100000 in
set_option maxHeartbeats 3200000 in
theorem mdelete_any (w : World) (B bm : Nat) (ev : Value) (M : List Pl) (q : ByteArray) (h : MAt w B bm ev M) (hord : Ord M) (hm : M.length ≤ 999) :
    Calls Tryz.prog 188 #[.pointer (some ⟨bm, 0, none⟩), .string q] w (MPost w B bm ev (delM M q)) := by
  go_enter Tryz.func188, Tryz.ntmps188
  go_wp2_with fail
  refine (mfind_any w B bm ev M q h hord (by omega)).mono ?_
  rintro e w1 ⟨i, rfl, hi, hb⟩
  have hI := delM_pos hord hi
  have hM := h.below hb
  cases ht : thereAt M q i
  · rw [ht] at hI
    have HI := hide (show delM M q = M from hI)
    clear hI
    go_wp2_with fail
    go_returns
    refine ⟨ev, rfl, ?_, hb.os, hb.tape, hb.output, hb.size, fun k hk _ _ _ => hb.block k hk, fun _ h => .inl h⟩
    rw [unhide HI]
    exact hM
  · rw [ht] at hI
    have HI := hide (show delM M q = M.take i ++ M.drop (i + 1) from hI)
    clear hI
    have hil : i < M.length := by
      unfold thereAt at ht
      cases hq : M[i]? with
      | none => rw [hq] at ht; cases ht
      | some p => exact (List.getElem?_eq_some_iff.1 hq).1
    have mc : w1.cell? ⟨bm, 0, none⟩ = some ev := hM.cell
    obtain ⟨g, cap, rfl, _, hgl⟩ := hM.row.form (by omega)
    have hd := sdelete_any w1 B g cap M i hM.row hil (by omega)
    have HD := hide hd
    have HM := hide hM
    clear hd hM
    go_wp2_with fail
    refine (unhide HD).mono ?_
    rintro e w2 ⟨v2, rfl, ho2, hg2, hf2⟩
    have hbm := h.lt
    have hne : bm ≠ g := fun e => (unhide HM).ne (by simp [Value.ownBlock, e])
    have b2 : w2.heap[bm]? = w1.heap[bm]? := hg2.block bm (unhide HM).lt (by simpa using hne)
    have s0 := (World.cell?_of_block (a := ⟨bm, 0, none⟩) b2).trans mc
    have s1 := (World.frozen?_of_block (a := ⟨bm, 0, none⟩) b2).trans ((unhide HM).fz 0)
    have ht := mat_turn hb h (Below.refl _ w1) ho2 (by simpa [Value.ownBlock] using hg2) (by simpa [Value.ownBlock] using hf2)
    obtain ⟨ao2, cap2, hv2⟩ := row_form ho2
    subst hv2
    have HT := hide ht
    clear ht ho2 hg2 hf2 b2
    go_wp2_with fail
    go_returns
    have ht := unhide HT
    have hl2 : (M.take i ++ M.drop (i + 1)).length = min i M.length + (M.length - (i + 1)) := by simp
    rw [hl2, ← unhide HI] at ht
    exact ⟨_, rfl, ht⟩
end Go.Proofs.YtcbindgpbeaebaaGreatDoor
