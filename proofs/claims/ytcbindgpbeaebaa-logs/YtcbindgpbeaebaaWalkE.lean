import Derived.Test.YtcbindgpbeaebaaWalkD
namespace Go.Proofs.Ytcbindgpbeaebaa
open Go.RowKit Go.Deep
attribute [local go_sem ↓] Go.wp_at_zero Go.wp_at_succ

theorem info_string : (Try.prog.info? 9).map (fun i => (i.zero, i.size, i.bytes)) = some (some (.string ⟨#[]⟩), 1, 16) := by kernel_rfl

/-- blocks.New -/
def newDk (n : Nat) : Dk := { safe := List.replicate n ⟨#[]⟩, late := [], wait := -1, life := -1, failed := 0, cap := n }
theorem new_any (w : World) (n : Int) (n0 : 0 < n) (n1 : n ≤ 4096) :
    Calls Try.prog 6 #[.int .i64 n] w fun e w' => ∃ bd bs, e = .returned (.pointer (some ⟨bd, 0, none⟩)) ∧ DAt w' bd bs (.slice none 0 0) (newDk n.toNat) ∧ Below w.heap.size w w' ∧ w.heap.size ≤ bd ∧ w.heap.size ≤ bs := by
  obtain ⟨m, rfl⟩ := Int.eq_ofNat_of_zero_le (Int.le_of_lt n0)
  rw [Int.toNat_natCast]
  have hmk := fun w => run_make_row' (P := Try.prog) 52 9 (.string ⟨#[]⟩) 16 Try.underlying52 info_string rfl .i64 .i64 m (by omega) (by omega) w
  go_enter Try.func6, Try.ntmps6
  go_wp2
  go_ret
  refine ⟨w.heap.size + 1, w.heap.size, rfl, ⟨?_, ?_, World.ownsRow_nil _ _ _ _, by omega, by simp [Value.ownBlock], by simp [Value.ownBlock]⟩, ?_, by omega, Nat.le_refl _⟩
  · have h := heap_alloc_new (w.alloc (.cells (madeCells #[.string ⟨#[]⟩] m) 9)) (.cells (dcells w.heap.size (.slice none 0 0) (newDk m)) 55)
    have e : (w.alloc (.cells (madeCells #[.string ⟨#[]⟩] m) 9)).heap.size = w.heap.size + 1 := by simp
    rw [e] at h
    simpa [dcells, newDk] using h
  · refine ⟨by simp, .inr ⟨w.heap.size, m, madeCells #[Value.string ⟨#[]⟩] m, by simp [newDk], Nat.zero_le _, ?_, by simp [newDk], by simp [maxLen]; omega, by rw [size_madeCells, Nat.mul_one], ?_⟩⟩
    · rw [Below.heap_alloc _ _ _ (by simp), heap_alloc_new]
    · rw [toList_madeCells_one]
      simp [newDk]
  · exact ((Below.refl _ _).alloc (Nat.le_refl _) _).alloc (by simp) _

/-- A block that is none of the disk's. -/
def Off (w : World) (bd bs : Nat) (lv : Value) (k : Nat) : Prop := k < w.heap.size ∧ k ≠ bd ∧ k ≠ bs ∧ lv.ownBlock ≠ some k
theorem Off.step {w w' : World} {bd bs : Nat} {lv lv' : Value} {k : Nat} (h : Off w bd bs lv k) (st : DStep bd bs lv lv' w w') : Off w' bd bs lv' k ∧ w'.heap[k]? = w.heap[k]? := by
  obtain ⟨h1, h2, h3, h4⟩ := h
  refine ⟨⟨Nat.lt_of_lt_of_le h1 st.size, h2, h3, fun e => ?_⟩, st.block k h1 h2 h3 h4⟩
  rcases st.fresh k e with e | e
  · exact h4 e
  · omega

/-- Puts in memory, off the disk. -/
structure QAt (w : World) (bd bs : Nat) (lv qv : Value) (ps : List (Nat × ByteArray)) : Prop where
  own : w.ownsRow 0 67 2 qv ps.length (flat ps)
  off : ∀ g, qv.ownBlock = some g → Off w bd bs lv g
theorem QAt.step {w w' : World} {bd bs : Nat} {lv lv' qv : Value} {ps : List (Nat × ByteArray)} (h : QAt w bd bs lv qv ps) (st : DStep bd bs lv lv' w w') : QAt w' bd bs lv' qv ps :=
  ⟨ownsRow_kept h.own fun g hg => ((h.off g hg).step st).2, fun g hg => ((h.off g hg).step st).1⟩
theorem row_at {w : World} {e : TypeId} {qv : Value} {ps : List (Nat × ByteArray)} (h : w.ownsRow 0 e 2 qv ps.length (flat ps)) (i : Nat) (p : Nat × ByteArray) (hi : ps[i]? = some p) :
    ∃ g cap, qv = .slice (some ⟨g, 0, none⟩) ps.length cap ∧ w.cell? ⟨g, i * 2, none⟩ = some (.int .i64 (p.1 : Int)) ∧ w.cell? ⟨g, i * 2 + 1, none⟩ = some (.string p.2) ∧ g < w.heap.size := by
  have hl : i < ps.length := by
    rcases Nat.lt_or_ge i ps.length with hlt | hge
    · exact hlt
    · rw [List.getElem?_eq_none hge] at hi; cases hi
  obtain ⟨g, cap, hv, _, hg⟩ := h.form (by omega)
  have hc := h.cells (g := g) (by rw [hv]; rfl)
  have hf := flat_at ps i p hi
  have hadd : ∀ j, (⟨g, 0, none⟩ : Addr).add j = ⟨g, j, none⟩ := fun j => by unfold Addr.add; split <;> simp_all
  refine ⟨g, cap, hv, ?_, ?_, hg⟩
  · rw [← hadd]; exact hc _ _ hf.1
  · rw [← hadd]; exact hc _ _ hf.2

/-- (*Log).Blocks -/
theorem lblocks_any (w : World) (bl bd bs : Nat) (lv : Value) (d : Dk) (hp : w.cell? ⟨bl, 0, none⟩ = some (.pointer (some ⟨bd, 0, none⟩))) (h : DAt w bd bs lv d) (hn : d.safe.length ≤ 4096) :
    Calls Try.prog 27 #[.pointer (some ⟨bl, 0, none⟩)] w fun e w' => e = .returned (.int .i64 ((d.safe.length : Int) - 90)) ∧ w' = w := by
  go_enter Try.func27, Try.ntmps27
  go_wp2_with (go_at_call 8; refine (dblocks_any _ _ _ _ _ h).mono ?_; rintro e w' ⟨rfl, rfl⟩)
  go_ret
  exact ⟨rfl, rfl⟩

/-- (*Log).has -/
def hasB (n : Nat) (a : Int) : Bool := decide (0 ≤ a ∧ a < (n : Int) - 90)
theorem has_any (w : World) (bl bd bs : Nat) (lv : Value) (d : Dk) (a : Int) (hp : w.cell? ⟨bl, 0, none⟩ = some (.pointer (some ⟨bd, 0, none⟩))) (h : DAt w bd bs lv d) (hn : d.safe.length ≤ 4096) :
    Calls Try.prog 29 #[.pointer (some ⟨bl, 0, none⟩), .int .i64 a] w fun e w' => e = .returned (.bool (hasB d.safe.length a)) ∧ w' = w := by
  by_cases h0 : 0 ≤ a
  · have HR : Hid (hasB d.safe.length a = decide (a < (d.safe.length : Int) - 90)) := by show hasB d.safe.length a = _; simp [hasB, h0]
    have hd : decide (0 ≤ a) = true := by simpa using h0
    go_enter Try.func29, Try.ntmps29
    go_wp2_with (go_at_call 27; refine (lblocks_any _ _ _ _ _ _ hp h hn).mono ?_; rintro e w' ⟨rfl, rfl⟩)
    go_ret
    exact ⟨by rw [unhide HR]; rfl, rfl⟩
  · have HR : Hid (hasB d.safe.length a = false) := by show hasB d.safe.length a = _; simp [hasB, h0]
    have hd : decide (0 ≤ a) = false := by simpa using h0
    go_enter Try.func29, Try.ntmps29
    go_wp2_with fail
    go_ret
    exact ⟨by rw [unhide HR]; rfl, rfl⟩

/-- The closure of find. -/
theorem find1_any (w : World) (B x : Nat) (a : Int) (s : ByteArray) (hB : w.cell? ⟨B, 0, none⟩ = some (.int .i64 a)) :
    Calls Try.prog 46 #[.agg #[.int .i64 (x : Int), .string s], .pointer (some ⟨B, 0, none⟩)] w fun e w' => e = .returned (.bool ((x : Int) == a)) ∧ ∃ o, w' = w.alloc o := by
  have hB' : ∀ o, (w.alloc o).cell? ⟨B, 0, none⟩ = some (.int .i64 a) := fun o => (World.cell?_alloc_past _ _ _ (World.block_lt_of_cell? w _ hB)).trans hB
  go_enter Try.func46, Try.ntmps46
  go_wp2
  go_ret
  exact ⟨rfl, _, rfl⟩

/-- Where a number stands first among those put; -1: nowhere. -/
def idx : List (Nat × ByteArray) → Int → Int
  | [], _ => -1
  | p :: r, a => if (p.1 : Int) = a then 0 else if idx r a < 0 then -1 else idx r a + 1
theorem idx_none : ∀ (l : List (Nat × ByteArray)) (a : Int), (∀ (j : Nat) (p : Nat × ByteArray), l[j]? = some p → (p.1 : Int) ≠ a) → idx l a = -1
  | [], _, _ => rfl
  | p :: r, a, h => by
    have h0 := h 0 p (by simp)
    rw [idx, idx_none r a fun j q hq => h (j + 1) q (by simpa using hq)]
    simp [h0]
theorem idx_hit : ∀ (l : List (Nat × ByteArray)) (a : Int) (i : Nat) (p : Nat × ByteArray), l[i]? = some p → (p.1 : Int) = a → (∀ j q, j < i → l[j]? = some q → (q.1 : Int) ≠ a) → idx l a = (i : Int)
  | [], _, _, _, h, _, _ => by simp at h
  | q :: r, a, 0, p, h, e, hn => by
    simp at h; subst h
    simp [idx, e]
  | q :: r, a, i + 1, p, h, e, hn => by
    have h0 := hn 0 q (by omega) (by simp)
    have ih := idx_hit r a i p (by simpa using h) e fun j q hj hq => hn (j + 1) q (by omega) (by simpa using hq)
    rw [idx, ih, if_neg h0, if_neg (by omega)]
    omega

set_option maxRecDepth 100000 in
set_option maxHeartbeats 1600000 in
theorem indexFunc_any (w : World) (qv : Value) (ps : List (Nat × ByteArray)) (B : Nat) (a : Int) (hq : w.ownsRow 0 67 2 qv ps.length (flat ps)) (hB : w.cell? ⟨B, 0, none⟩ = some (.int .i64 a)) (hl : ps.length ≤ 1000000) :
    Calls Try.prog 45 #[qv, .func (.func 46) #[] #[.pointer (some ⟨B, 0, none⟩)]] w fun e w' => e = .returned (.int .i64 (idx ps a)) ∧ Below w.heap.size w w' := by
  obtain ⟨ao, cap, hqv⟩ := ownsRow_form hq
  subst hqv
  have lB := World.block_lt_of_cell? w _ hB
  go_enter Try.func45, Try.ntmps45
  go_wp2_with fail
  go_loopw [8] (fun i wr => ∃ k : Nat, k ≤ ps.length ∧ i = .int .i64 k ∧ Below w.heap.size w wr ∧ ∀ j p, j < k → ps[j]? = some p → (p.1 : Int) ≠ a) (fun i _ => ps.length - (intOf i).toNat)
  case atStart => exact ⟨0, Nat.zero_le _, rfl, Below.refl _ _, fun j p hj _ => by omega⟩
  case round =>
    obtain ⟨k, hk, rfl, hb, hno⟩ := hrel
    have HN := hide hno
    clear hno
    by_cases hlt : k < ps.length
    · obtain ⟨p, hp⟩ : ∃ p, ps[k]? = some p := ⟨ps[k], List.getElem?_eq_getElem hlt⟩
      obtain ⟨g, capx, he, cA, cB, lg⟩ := row_at hq k p hp
      have hao : ao = some ⟨g, 0, none⟩ := by
        simp only [Value.slice.injEq] at he
        exact he.1
      subst hao
      clear he
      have cA' := (hb.cell (p := ⟨g, k * 2, none⟩) lg).trans cA
      have cB' := (hb.cell (p := ⟨g, k * 2 + 1, none⟩) lg).trans cB
      have hB' := (hb.cell (p := ⟨B, 0, none⟩) lB).trans hB
      have i0 : (0 : Int) ≤ (k : Int) := Int.natCast_nonneg _
      have i1 : (k : Int) < (ps.length : Int) := by omega
      have HP := hide hp
      clear hp
      go_wp2_with fail
      refine (find1_any _ _ _ _ _ hB').mono ?_
      rintro e w1 ⟨rfl, o, rfl⟩
      have hb1 : Below w.heap.size w (wr.alloc o) := hb.alloc hb.size o
      by_cases he : (p.1 : Int) = a
      · have hbe : ((p.1 : Int) == a) = true := by simpa using he
        have HI : Hid (idx ps a = (k : Int)) := idx_hit ps a k p (unhide HP) he (unhide HN)
        clear he
        rw [hbe]
        clear hbe
        go_wp2_with fail
        go_ret
        exact ⟨by rw [unhide HI]; rfl, hb1⟩
      · have hbe : ((p.1 : Int) == a) = false := by simpa using he
        have HK := hide he
        clear he
        rw [hbe]
        clear hbe
        go_wp2_with fail
        go_roundw
        case rel =>
          refine ⟨k + 1, by omega, by go_num, hb1, fun j q hj hq' => ?_⟩
          by_cases hjk : j = k
          · subst hjk
            rw [unhide HP] at hq'
            cases hq'
            exact unhide HK
          · exact (unhide HN) j q (by omega) hq'
        case measure => simp [intOf]; omega
    · have HI : Hid (idx ps a = -1) := idx_none ps a fun j q hq' => (unhide HN) j q (by
        rcases Nat.lt_or_ge j ps.length with h | h
        · omega
        · rw [List.getElem?_eq_none h] at hq'; cases hq') hq'
      go_wp2_with fail
      go_ret
      exact ⟨by rw [unhide HI]; rfl, hb⟩

/-- (*Log).find -/
theorem find_any (w : World) (bl : Nat) (pv : Value) (ps : List (Nat × ByteArray)) (a : Int) (hp : w.cell? ⟨bl, 1, none⟩ = some pv) (hq : w.ownsRow 0 67 2 pv ps.length (flat ps)) (hl : ps.length ≤ 1000000) :
    Calls Try.prog 30 #[.pointer (some ⟨bl, 0, none⟩), .int .i64 a] w fun e w' => e = .returned (.int .i64 (idx ps a)) ∧ Below w.heap.size w w' := by
  have hmf : ∀ (fn : Fn) (first cap : Array Value) (w : World), (Instr.makeFunc fn first cap).run Try.prog w = .ok (.func fn first cap) w := fun _ _ _ _ => rfl
  have hp' : ∀ o, (w.alloc o).cell? ⟨bl, 1, none⟩ = some pv := fun o => (World.cell?_alloc_past _ _ _ (World.block_lt_of_cell? w _ hp)).trans hp
  go_enter Try.func30, Try.ntmps30
  go_wp2_with fail
  refine (indexFunc_any _ pv ps w.heap.size a (hq.alloc _) (by rw [cell_of_row _ _ _ _ _ _ (heap_alloc_new w _)]; rfl) hl).mono ?_
  rintro e w1 ⟨rfl, hb⟩
  have hb' : Below w.heap.size w w1 := ((Below.refl _ _).alloc (Nat.le_refl _) _).trans (hb.mono (by simp))
  go_wp2_with fail
  go_ret
  exact ⟨rfl, hb'⟩
end Go.Proofs.Ytcbindgpbeaebaa
