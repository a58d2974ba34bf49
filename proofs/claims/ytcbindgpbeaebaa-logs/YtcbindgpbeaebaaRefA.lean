import Derived.Test.YtcbindgpbeaebaaWalkP
namespace Go.Proofs.Ytcbindgpbeaebaa
open Go.RowKit Go.Deep
attribute [local go_sem ↓] Go.wp_at_zero Go.wp_at_succ

/-- The document's log, as plain data. -/
structure Rf where
  many : Int
  sure : List (Nat × ByteArray)
  put : List (Nat × ByteArray)

theorem _root_.Go.World.ownsRow.base0 {w : World} {b : Nat} {e : TypeId} {size : Nat} {v : Value} {n : Nat} {xs : List Value} (h : w.ownsRow b e size v n xs) : w.ownsRow 0 e size v n xs := ownsRow_base h (Nat.zero_le _)
/-- gauzeref.get -/
def lookR : List (Nat × ByteArray) → Int → Option ByteArray
  | [], _ => none
  | p :: r, a => if (p.1 : Int) = a then some p.2 else lookR r a
theorem lookR_none : ∀ (l : List (Nat × ByteArray)) (a : Int), (∀ (j : Nat) (p : Nat × ByteArray), l[j]? = some p → (p.1 : Int) ≠ a) → lookR l a = none
  | [], _, _ => rfl
  | p :: r, a, h => by
    have h0 := h 0 p (by simp)
    rw [lookR, lookR_none r a fun j q hq => h (j + 1) q (by simpa using hq)]
    simp [h0]
theorem lookR_hit : ∀ (l : List (Nat × ByteArray)) (a : Int) (i : Nat) (p : Nat × ByteArray), l[i]? = some p → (p.1 : Int) = a → (∀ j q, j < i → l[j]? = some q → (q.1 : Int) ≠ a) → lookR l a = some p.2
  | [], _, _, _, h, _, _ => by simp at h
  | q :: r, a, 0, p, h, e, hn => by
    simp at h; subst h
    simp [lookR, e]
  | q :: r, a, i + 1, p, h, e, hn => by
    have h0 := hn 0 q (by omega) (by simp)
    rw [lookR, if_neg h0]
    exact lookR_hit r a i p (by simpa using h) e fun j q hj hq => hn (j + 1) q (by omega) (by simpa using hq)
def gotR (l : List (Nat × ByteArray)) (a : Int) : ByteArray × Bool := match lookR l a with
  | some s => (s, true)
  | none => (⟨#[]⟩, false)

set_option maxRecDepth 100000 in
set_option maxHeartbeats 1600000 in
theorem rget_any (w : World) (v : Value) (l : List (Nat × ByteArray)) (a : Int) (h : w.ownsRow 0 84 2 v l.length (flat l)) (hl : l.length ≤ 1000000) :
    Calls Try.prog 37 #[v, .int .i64 a] w fun e w' => e = .returned (.tuple #[.string (gotR l a).1, .bool (gotR l a).2]) ∧ w' = w := by
  obtain ⟨ao, cap, hv⟩ := ownsRow_form h
  subst hv
  go_enter Try.func37, Try.ntmps37
  go_wp2_with fail
  go_loop [6] (fun i => ∃ k : Nat, k ≤ l.length ∧ i = .int .i64 k ∧ ∀ j p, j < k → l[j]? = some p → (p.1 : Int) ≠ a) (fun i => l.length - (intOf i).toNat)
  case atStart => exact ⟨0, Nat.zero_le _, rfl, fun j p hj _ => by omega⟩
  case round =>
    obtain ⟨k, hk, rfl, hno⟩ := hrel
    have HN := hide hno
    clear hno
    by_cases hlt : k < l.length
    · obtain ⟨p, hp⟩ : ∃ p, l[k]? = some p := ⟨l[k], List.getElem?_eq_getElem hlt⟩
      obtain ⟨g, capx, he, cA, cB, lg⟩ := row_at h k p hp
      have hao : ao = some ⟨g, 0, none⟩ := by
        simp only [Value.slice.injEq] at he
        exact he.1
      subst hao
      clear he
      have i0 : (0 : Int) ≤ (k : Int) := Int.natCast_nonneg _
      have i1 : (k : Int) < (l.length : Int) := by omega
      by_cases hpa : (p.1 : Int) = a
      · have HR : Hid (gotR l a = (p.2, true)) := by show gotR l a = _; rw [gotR, lookR_hit l a k p hp hpa (unhide HN)]
        have hb : ((p.1 : Int) == a) = true := by simpa using hpa
        clear hp hpa
        go_wp2_with fail
        go_ret2
        exact ⟨by rw [unhide HR]; rfl, rfl⟩
      · have hb : ((p.1 : Int) == a) = false := by simpa using hpa
        have HP := hide hp
        have HK := hide hpa
        clear hp hpa
        go_wp2_with fail
        go_round
        case rel =>
          refine ⟨k + 1, by omega, by go_num, fun j q hj hq => ?_⟩
          by_cases hjk : j = k
          · subst hjk
            rw [unhide HP] at hq
            cases hq
            exact unhide HK
          · exact (unhide HN) j q (by omega) hq
        case measure => simp [intOf]; omega
    · have HR : Hid (gotR l a = (⟨#[]⟩, false)) := by
        show gotR l a = _
        rw [gotR, lookR_none l a fun j q hq => (unhide HN) j q (by
          rcases Nat.lt_or_ge j l.length with h | h
          · omega
          · rw [List.getElem?_eq_none h] at hq; cases hq) hq]
      go_wp2_with fail
      go_ret2
      exact ⟨by rw [unhide HR]; rfl, rfl⟩
/-- A reference log as a value. -/
def rval (R : Rf) (sv pv : Value) : Value := .agg #[.int .i64 R.many, sv, pv]
/-- Its lists in memory, from block B on. -/
structure RAt (B : Nat) (w : World) (R : Rf) (sv pv : Value) : Prop where
  sure : w.ownsRow B 84 2 sv R.sure.length (flat R.sure)
  put : w.ownsRow B 84 2 pv R.put.length (flat R.put)
  sl : R.sure.length ≤ 1000000
  pl : R.put.length ≤ 1000000
theorem RAt.base {B B' : Nat} {w : World} {R : Rf} {sv pv : Value} (h : RAt B w R sv pv) (hb : B' ≤ B) : RAt B' w R sv pv := ⟨ownsRow_base h.sure hb, ownsRow_base h.put hb, h.sl, h.pl⟩
theorem ownsRow_below {B C : Nat} {w w' : World} {e : TypeId} {size : Nat} {v : Value} {n : Nat} {xs : List Value} (h : w.ownsRow B e size v n xs) (hb : Below C w w') (hC : w.heap.size ≤ C) : w'.ownsRow B e size v n xs := by
  obtain ⟨h1, h2⟩ := h
  refine ⟨h1, ?_⟩
  rcases h2 with h2 | ⟨g, cap, cur, hv, hg, hh, hr⟩
  · exact .inl h2
  · exact .inr ⟨g, cap, cur, hv, hg, (hb.block g (Nat.lt_of_lt_of_le (lt_of_heap hh) hC)).trans hh, hr⟩
theorem RAt.below {B : Nat} {w w' : World} {R : Rf} {sv pv : Value} (h : RAt B w R sv pv) (hb : Below w.heap.size w w') : RAt B w' R sv pv := ⟨ownsRow_below h.sure hb (Nat.le_refl _), ownsRow_below h.put hb (Nat.le_refl _), h.sl, h.pl⟩
theorem RAt.alloc {B : Nat} {w : World} {R : Rf} {sv pv : Value} (h : RAt B w R sv pv) (o : Obj) : RAt B (w.alloc o) R sv pv := ⟨h.sure.alloc o, h.put.alloc o, h.sl, h.pl⟩
/-- (Log).Is -/
def isR (m a : Int) : Bool := decide (0 ≤ a ∧ a < m)
theorem rIs_any (w : World) (m : Int) (sv pv : Value) (a : Int) : Calls Try.prog 22 #[.agg #[.int .i64 m, sv, pv], .int .i64 a] w fun e w' => e = .returned (.bool (isR m a)) ∧ ∃ o, w' = w.alloc o := by
  by_cases h0 : 0 ≤ a
  · have HR : Hid (isR m a = decide (a < m)) := by show isR m a = _; simp [isR, h0]
    have hd : decide (0 ≤ a) = true := by simpa using h0
    go_enter Try.func22, Try.ntmps22
    go_wp2
    go_ret
    exact ⟨by rw [unhide HR]; rfl, _, rfl⟩
  · have HR : Hid (isR m a = false) := by show isR m a = _; simp [isR, h0]
    have hd : decide (0 ≤ a) = false := by simpa using h0
    go_enter Try.func22, Try.ntmps22
    go_wp2
    go_ret
    exact ⟨by rw [unhide HR]; rfl, _, rfl⟩
/-- (Log).Begun -/
theorem begun_any (w : World) (m : Int) (sv : Value) (ao : Option Addr) (n c : Nat) : Calls Try.prog 41 #[.agg #[.int .i64 m, sv, .slice ao n c]] w fun e w' => e = .returned (.bool (decide (0 < n))) ∧ ∃ o, w' = w.alloc o := by
  go_enter Try.func41, Try.ntmps41
  go_wp2
  go_ret
  exact ⟨rfl, _, rfl⟩
/-- gauzeref.NewLog -/
theorem newLog_any (w : World) (m : Int) : Calls Try.prog 7 #[.int .i64 m] w fun e w' => e = .returned (.agg #[.int .i64 m, .slice none 0 0, .slice none 0 0]) ∧ Below w.heap.size w w' := by
  go_enter Try.func7, Try.ntmps7
  go_wp2
  exact bodyPost_ret (v := .agg #[.int .i64 m, .slice none 0 0, .slice none 0 0]) (by simp [results, Try.results7, go_sem]) rfl ⟨rfl, (Below.refl _ _).alloc (Nat.le_refl _) _⟩
theorem addr0 (g j : Nat) : (⟨g, 0, none⟩ : Addr).add j = ⟨g, j, none⟩ := by unfold Addr.add; split <;> simp_all
/-- (Log).Sure -/
def sureR (R : Rf) (a : Int) : ByteArray := (lookR R.sure a).getD (zs 256)
theorem conv_zeros (w : World) : (convert 76 9 (.slice (some ⟨w.heap.size, 0, none⟩) 256 256)).run Try.prog (w.alloc (.cells (madeCells #[.int .u8 0] 256) 5)) = .ok (.string (zs 256)) (w.alloc (.cells (madeCells #[.int .u8 0] 256) 5)) := by
  have this := run_convert_bytes_back (P := Try.prog) (w.alloc (.cells (madeCells #[.int .u8 0] 256) 5)) 76 9 5 ⟨w.heap.size, 0, none⟩ 256 (List.replicate 256 0) Try.underlying76 Try.underlying5 Try.underlying9 (fun j hj => by
    rw [addr0, cell_of_row _ _ _ _ _ _ (heap_alloc_new w _), ← Array.getElem?_toList, toList_madeCells_one]
    rw [List.length_replicate] at hj
    rw [List.getElem?_replicate, if_pos hj, List.getElem_replicate]
    rfl)
  rw [List.length_replicate] at this
  exact this

set_option maxRecDepth 100000 in
theorem sure_any (B : Nat) (w : World) (R : Rf) (sv pv : Value) (a : Int) (h : RAt B w R sv pv) :
    Calls Try.prog 40 #[.agg #[.int .i64 R.many, sv, pv], .int .i64 a] w fun e w' => e = .returned (.string (sureR R a)) ∧ Below w.heap.size w w' := by
  have h1 : ∀ o, (w.alloc o).ownsRow 0 84 2 sv R.sure.length (flat R.sure) := fun o => (ownsRow_base h.sure (Nat.zero_le _)).alloc o
  have hmk : ∀ w : World, (Instr.makeSlice 76 (.int .i64 256) (.int .i64 256)).run Try.prog w = .ok (.slice (some ⟨w.heap.size, 0, none⟩) 256 256) (w.alloc (.cells (madeCells #[.int .u8 0] 256) 5)) :=
    fun w => run_make_row' (P := Try.prog) 76 5 (.int .u8 0) 1 Try.underlying76 info_u8 rfl .i64 .i64 256 (by omega) (by omega) w
  obtain ⟨ao, cap, hv⟩ := ownsRow_form h.sure.base0
  subst hv
  have hcv := conv_zeros (w.alloc (.cells #[.int .i64 R.many, .slice ao R.sure.length cap, pv] 30))
  rw [show (w.alloc (.cells #[.int .i64 R.many, .slice ao R.sure.length cap, pv] 30)).heap.size = w.heap.size + 1 by simp] at hcv
  cases hl : lookR R.sure a with
  | some s =>
    have HG : Hid (gotR R.sure a = (s, true)) := by show gotR R.sure a = _; rw [gotR, hl]
    have HR : Hid (sureR R a = s) := by show sureR R a = _; rw [sureR, hl]; rfl
    clear hl
    go_enter Try.func40, Try.ntmps40
    go_wp2_with fail
    refine (rget_any _ _ R.sure a (h1 _) h.sl).mono ?_
    rintro e w1 ⟨rfl, rfl⟩
    rw [unhide HG]
    go_wp2_with fail
    go_ret
    exact ⟨by rw [unhide HR]; rfl, (Below.refl _ _).alloc (Nat.le_refl _) _⟩
  | none =>
    have HG : Hid (gotR R.sure a = (⟨#[]⟩, false)) := by show gotR R.sure a = _; rw [gotR, hl]
    have HR : Hid (sureR R a = zs 256) := by show sureR R a = _; rw [sureR, hl]; rfl
    clear hl
    go_enter Try.func40, Try.ntmps40
    go_wp2_with fail
    refine (rget_any _ _ R.sure a (h1 _) h.sl).mono ?_
    rintro e w1 ⟨rfl, rfl⟩
    rw [unhide HG]
    go_wp2_with fail
    go_ret
    exact ⟨by rw [unhide HR]; rfl, ((Below.refl _ _).alloc (Nat.le_refl _) _).alloc (by simp) _⟩
/-- (Log).Get -/
def getR (R : Rf) (a : Int) : ByteArray := (lookR R.put a).getD (sureR R a)
set_option maxRecDepth 100000 in
theorem rGet_any (B : Nat) (w : World) (R : Rf) (sv pv : Value) (a : Int) (h : RAt B w R sv pv) :
    Calls Try.prog 23 #[.agg #[.int .i64 R.many, sv, pv], .int .i64 a] w fun e w' => e = .returned (.string (getR R a)) ∧ Below w.heap.size w w' := by
  have h1 : ∀ o, (w.alloc o).ownsRow 0 84 2 pv R.put.length (flat R.put) := fun o => h.put.base0.alloc o
  obtain ⟨ao, cap, hv⟩ := ownsRow_form h.put.base0
  subst hv
  obtain ⟨so, scap, hsv⟩ := ownsRow_form h.sure.base0
  subst hsv
  cases hl : lookR R.put a with
  | some s =>
    have HG : Hid (gotR R.put a = (s, true)) := by show gotR R.put a = _; rw [gotR, hl]
    have HR : Hid (getR R a = s) := by show getR R a = _; rw [getR, hl]; rfl
    clear hl
    go_enter Try.func23, Try.ntmps23
    go_wp2_with fail
    refine (rget_any _ _ R.put a (h1 _) h.pl).mono ?_
    rintro e w1 ⟨rfl, rfl⟩
    rw [unhide HG]
    go_wp2_with fail
    go_ret
    exact ⟨by rw [unhide HR]; rfl, (Below.refl _ _).alloc (Nat.le_refl _) _⟩
  | none =>
    have HG : Hid (gotR R.put a = (⟨#[]⟩, false)) := by show gotR R.put a = _; rw [gotR, hl]
    have HR : Hid (getR R a = sureR R a) := by show getR R a = _; rw [getR, hl]; rfl
    clear hl
    have h2 := fun o => h.alloc o
    have H2 := hide h2
    clear h2
    go_enter Try.func23, Try.ntmps23
    go_wp2_with fail
    refine (rget_any _ _ R.put a (h1 _) h.pl).mono ?_
    rintro e w1 ⟨rfl, hw1⟩
    have hw1 := hw1.symm
    subst hw1
    rw [unhide HG]
    go_wp2_with fail
    refine (sure_any B _ R (.slice so R.sure.length scap) (.slice ao R.put.length cap) a ((unhide H2) _)).mono ?_
    rintro e w2 ⟨rfl, b2⟩
    have HB := hide (((Below.refl w.heap.size w).alloc (Nat.le_refl _) _).trans (b2.mono (by simp)))
    clear b2
    go_wp2_with fail
    go_ret
    exact ⟨by rw [unhide HR]; rfl, unhide HB⟩
/-- gauzeref.with -/
def withR (l : List (Nat × ByteArray)) (a : Nat) (s : ByteArray) : List (Nat × ByteArray) := (a, s) :: l.filter fun p => decide (p.1 ≠ a)
theorem info_block : (Try.prog.info? 84).map (fun i => (i.zero, i.size, i.bytes)) = some (some (.agg #[.int .i64 0, .string ByteArray.empty]), 2, 24) := by kernel_rfl
theorem filter_len (l : List (Nat × ByteArray)) (a : Nat) : (l.filter fun p => decide (p.1 ≠ a)).length ≤ l.length := List.length_filter_le _ _

set_option maxRecDepth 100000 in
set_option maxHeartbeats 3200000 in
theorem with_any (w : World) (v : Value) (l : List (Nat × ByteArray)) (a : Nat) (s : ByteArray) (h : w.ownsRow 0 84 2 v l.length (flat l)) (hl : l.length ≤ 900000) :
    Calls Try.prog 39 #[v, .int .i64 (a : Int), .string s] w fun e w' => ∃ v', e = .returned v' ∧ w'.ownsRow w.heap.size 84 2 v' (withR l a s).length (flat (withR l a s)) ∧ Below w.heap.size w w' := by
  obtain ⟨ao, cap, hv⟩ := ownsRow_form h
  subst hv
  obtain ⟨i0, hi0, hz0, hz1, hz2⟩ := info_parts info_block
  go_enter Try.func39, Try.ntmps39
  go_wp2_with fail
  go_loopw [7, 8] (fun v i wr => ∃ k : Nat, k ≤ l.length ∧ i = .int .i64 k ∧ wr.ownsRow w.heap.size 84 2 v (withR (l.take k) a s).length (flat (withR (l.take k) a s)) ∧ Below w.heap.size w wr) (fun _ i _ => l.length - (intOf i).toNat)
  case atStart =>
    refine ⟨0, Nat.zero_le _, rfl, ?_, (Below.refl _ _).alloc (Nat.le_refl _) _⟩
    exact ⟨rfl, .inr ⟨w.heap.size, 1, #[.int .i64 (a : Int), .string s], rfl, Nat.le_refl _, heap_alloc_new w _, by simp [withR], by simp [maxLen], rfl, rfl⟩⟩
  case round =>
    obtain ⟨k, hk, rfl, hown, hb⟩ := hrel
    have hfl := filter_len (l.take k) a
    have htl : (l.take k).length ≤ l.length := by rw [List.length_take]; omega
    have hwl : (withR (l.take k) a s).length = (((l.take k).filter fun p => decide (p.1 ≠ a)).length) + 1 := by simp [withR]
    by_cases hlt : k < l.length
    · obtain ⟨p, hp⟩ : ∃ p, l[k]? = some p := ⟨l[k], List.getElem?_eq_getElem hlt⟩
      obtain ⟨g, capx, he, cA, cB, lg⟩ := row_at h k p hp
      have hao : ao = some ⟨g, 0, none⟩ := by
        simp only [Value.slice.injEq] at he
        exact he.1
      subst hao
      clear he
      have cA' := (hb.cell (p := ⟨g, k * 2, none⟩) lg).trans cA
      have cB' := (hb.cell (p := ⟨g, k * 2 + 1, none⟩) lg).trans cB
      have hts : l.take (k + 1) = l.take k ++ [p] := by rw [List.take_add_one, hp]; rfl
      have HTS := hide hts
      clear hts hp
      have i0' : (0 : Int) ≤ (k : Int) := Int.natCast_nonneg _
      have i1 : (k : Int) < (l.length : Int) := by omega
      have hsz := hb.size
      have HWL := hide hwl
      have hwb : (withR (l.take k) a s).length ≤ 900001 := by omega
      clear hwl
      by_cases hpa : p.1 = a
      · have hbe : ((p.1 : Int) != (a : Int)) = false := by simp [hpa]
        have HW : Hid (withR (l.take (k + 1)) a s = withR (l.take k) a s) := by show withR (l.take (k + 1)) a s = _; rw [unhide HTS]; simp [withR, hpa]
        clear hpa
        go_wp2_with fail
        go_roundw
        case rel => exact ⟨k + 1, by omega, by go_num, by rw [unhide HW]; exact hown, hb⟩
        case measure => simp [intOf]; omega
      · have hbe : ((p.1 : Int) != (a : Int)) = true := by simp; omega
        have HW : Hid (withR (l.take (k + 1)) a s = withR (l.take k) a s ++ [p]) := by show withR (l.take (k + 1)) a s = _; rw [unhide HTS]; simp [withR, hpa]
        clear hpa
        go_wp2_with (at_builtin; refine wpList_append_lies _ (by rfl) _ _ _ (by rfl) w.heap.size 84 i0 _ 2 24 Try.underlying28 hi0 hz0 hz1 hz2 rfl (by omega) _ (withR (l.take k) a s).length (flat (withR (l.take k) a s)) (by rfl) (hown.alloc _) ⟨wr.heap.size, 0, none⟩ 1 1 [.int .i64 (p.1 : Int), .string p.2] (by rfl) (by rfl) (World.news_of_block (cs := #[.int .i64 (p.1 : Int), .string p.2]) (t := 84) (fr := (0, 0)) (heap_alloc_new wr _)) (by simp [Value.oneCell']) (by omega) (by simp [maxLen]; omega) (by omega) (by simp; omega) (wr.heap.size + 1) (by simp) ?_; intro gg cap2 w2 hown1 hgrow hat hlt2)
        go_roundw
        case rel =>
          refine ⟨k + 1, by omega, by go_num, ?_, ?_⟩
          · rw [unhide HW, flat_app, List.length_append]
            exact hown1
          · exact (hb.alloc hsz _).grown hgrow (by simp; omega) (fun q hq' => (hown.lt q hq').1)
        case measure => simp [intOf]; omega
    · have hk' : l.take k = l := List.take_of_length_le (by omega)
      rw [hk'] at hown
      obtain ⟨g, cap2, hv, _, hg⟩ := hown.form (by simp [withR])
      subst hv
      clear hwl
      go_wp2_with fail
      go_ret
      exact ⟨_, rfl, hown, hb⟩
end Go.Proofs.Ytcbindgpbeaebaa
