import Derived.Test.YtcbindgpbeaebaaDoorWalkD
import Derived.Lib.BufferWrite
namespace Go.Proofs.YtcbindgpbeaebaaDoor
open Go.RowKit Go.Deep
attribute [local go_sem ↓] Go.wp_at_zero Go.wp_at_succ

theorem info_string : (Tryd.prog.info? 9).map (fun i => (i.zero, i.size, i.bytes)) = some (some (.string ⟨#[]⟩), 1, 16) := by kernel_rfl

/-- blocks.New -/
def newDk (n : Nat) : Dk := { safe := List.replicate n ⟨#[]⟩, late := [], wait := -1, life := -1, failed := 0, cap := n }
theorem new_any (w : World) (n : Int) (n0 : 0 < n) (n1 : n ≤ 4096) :
    Calls Tryd.prog 12 #[.int .i64 n] w fun e w' => ∃ bd bs, e = .returned (.pointer (some ⟨bd, 0, none⟩)) ∧ DAt w' bd bs (.slice none 0 0) (newDk n.toNat) ∧ Below w.heap.size w w' ∧ w.heap.size ≤ bd ∧ w.heap.size ≤ bs := by
  obtain ⟨m, rfl⟩ := Int.eq_ofNat_of_zero_le (Int.le_of_lt n0)
  rw [Int.toNat_natCast]
  have hmk := fun w => run_make_row' (P := Tryd.prog) 72 9 (.string ⟨#[]⟩) 16 Tryd.underlying72 info_string rfl .i64 .i64 m (by omega) (by omega) w
  go_enter Tryd.func12, Tryd.ntmps12
  go_wp2
  go_ret
  refine ⟨w.heap.size + 1, w.heap.size, rfl, ⟨?_, ?_, World.ownsRow_nil _ _ _ _, by omega, by simp [Value.ownBlock], by simp [Value.ownBlock]⟩, ?_, by omega, Nat.le_refl _⟩
  · have h := heap_alloc_new (w.alloc (.cells (madeCells #[.string ⟨#[]⟩] m) 9)) (.cells (dcells w.heap.size (.slice none 0 0) (newDk m)) 75)
    have e : (w.alloc (.cells (madeCells #[.string ⟨#[]⟩] m) 9)).heap.size = w.heap.size + 1 := by simp
    rw [e] at h
    simpa [dcells, newDk] using h
  · refine ⟨by simp, .inr ⟨w.heap.size, m, madeCells #[Value.string ⟨#[]⟩] m, by simp [newDk], Nat.zero_le _, ?_, by simp [newDk], by simp [maxLen]; omega, by rw [size_madeCells, Nat.mul_one], ?_⟩⟩
    · rw [Below.heap_alloc _ _ _ (by simp), heap_alloc_new]
    · rw [toList_madeCells_one]
      simp [newDk]
  · exact ((Below.refl _ _).alloc (Nat.le_refl _) _).alloc (by simp) _

/-- A block that is none of the disk's. -/
def Off (w : World) (bd bs : Nat) (lv : Value) (k : Nat) : Prop := k < w.heap.size ∧ k ≠ bd ∧ k ≠ bs ∧ lv.ownBlock ≠ some k
theorem Off.step {w w' : World} {bd bs : Nat} {lv lv' : Value} {k : Nat} (h : Off w bd bs lv k) (st : DStep bd bs lv lv' w w') : Off w' bd bs lv' k ∧ w'.heap[k]? = w.heap[k]? := by
  obtain ⟨h1, h2, h3, h4⟩ := h
  refine ⟨⟨Nat.lt_of_lt_of_le h1 st.size, h2, h3, fun e => ?_⟩, st.block k h1 h2 h3 h4⟩
  rcases st.fresh k e with e | e
  · exact h4 e
  · omega

/-- Puts in memory, off the disk. -/
structure QAt (w : World) (bd bs : Nat) (lv qv : Value) (ps : List (Nat × ByteArray)) : Prop where
  own : w.ownsRow 0 159 2 qv ps.length (flat ps)
  off : ∀ g, qv.ownBlock = some g → Off w bd bs lv g
theorem QAt.step {w w' : World} {bd bs : Nat} {lv lv' qv : Value} {ps : List (Nat × ByteArray)} (h : QAt w bd bs lv qv ps) (st : DStep bd bs lv lv' w w') : QAt w' bd bs lv' qv ps :=
  ⟨ownsRow_kept h.own fun g hg => ((h.off g hg).step st).2, fun g hg => ((h.off g hg).step st).1⟩
theorem row_at {w : World} {e : TypeId} {qv : Value} {ps : List (Nat × ByteArray)} (h : w.ownsRow 0 e 2 qv ps.length (flat ps)) (i : Nat) (p : Nat × ByteArray) (hi : ps[i]? = some p) :
    ∃ g cap, qv = .slice (some ⟨g, 0, none⟩) ps.length cap ∧ w.cell? ⟨g, i * 2, none⟩ = some (.int .i64 (p.1 : Int)) ∧ w.cell? ⟨g, i * 2 + 1, none⟩ = some (.string p.2) ∧ g < w.heap.size := by
  have hl : i < ps.length := by
    rcases Nat.lt_or_ge i ps.length with hlt | hge
    · exact hlt
    · rw [List.getElem?_eq_none hge] at hi; cases hi
  obtain ⟨g, cap, hv, _, hg⟩ := h.form (by omega)
  have hc := h.cells (g := g) (by rw [hv]; rfl)
  have hf := flat_at ps i p hi
  have hadd : ∀ j, (⟨g, 0, none⟩ : Addr).add j = ⟨g, j, none⟩ := fun j => by unfold Addr.add; split <;> simp_all
  refine ⟨g, cap, hv, ?_, ?_, hg⟩
  · rw [← hadd]; exact hc _ _ hf.1
  · rw [← hadd]; exact hc _ _ hf.2

/-- (*Log).Blocks -/
theorem lblocks_any (w : World) (bl bd bs : Nat) (lv : Value) (d : Dk) (hp : w.cell? ⟨bl, 0, none⟩ = some (.pointer (some ⟨bd, 0, none⟩))) (h : DAt w bd bs lv d) (hn : d.safe.length ≤ 4096) :
    Calls Tryd.prog 132 #[.pointer (some ⟨bl, 0, none⟩)] w fun e w' => e = .returned (.int .i64 ((d.safe.length : Int) - 90)) ∧ w' = w := by
  go_enter Tryd.func132, Tryd.ntmps132
  go_wp2_with (go_at_call 29; refine (dblocks_any _ _ _ _ _ h).mono ?_; rintro e w' ⟨rfl, rfl⟩)
  go_ret
  exact ⟨rfl, rfl⟩

/-- (*Log).has -/
def hasB (n : Nat) (a : Int) : Bool := decide (0 ≤ a ∧ a < (n : Int) - 90)
theorem has_any (w : World) (bl bd bs : Nat) (lv : Value) (d : Dk) (a : Int) (hp : w.cell? ⟨bl, 0, none⟩ = some (.pointer (some ⟨bd, 0, none⟩))) (h : DAt w bd bs lv d) (hn : d.safe.length ≤ 4096) :
    Calls Tryd.prog 115 #[.pointer (some ⟨bl, 0, none⟩), .int .i64 a] w fun e w' => e = .returned (.bool (hasB d.safe.length a)) ∧ w' = w := by
  by_cases h0 : 0 ≤ a
  · have HR : Hid (hasB d.safe.length a = decide (a < (d.safe.length : Int) - 90)) := by show hasB d.safe.length a = _; simp [hasB, h0]
    have hd : decide (0 ≤ a) = true := by simpa using h0
    go_enter Tryd.func115, Tryd.ntmps115
    go_wp2_with (go_at_call 132; refine (lblocks_any _ _ _ _ _ _ hp h hn).mono ?_; rintro e w' ⟨rfl, rfl⟩)
    go_ret
    exact ⟨by rw [unhide HR]; rfl, rfl⟩
  · have HR : Hid (hasB d.safe.length a = false) := by show hasB d.safe.length a = _; simp [hasB, h0]
    have hd : decide (0 ≤ a) = false := by simpa using h0
    go_enter Tryd.func115, Tryd.ntmps115
    go_wp2_with fail
    go_ret
    exact ⟨by rw [unhide HR]; rfl, rfl⟩

/-- The closure of find. -/
theorem find1_any (w : World) (B x : Nat) (a : Int) (s : ByteArray) (hB : w.cell? ⟨B, 0, none⟩ = some (.int .i64 a)) :
    Calls Tryd.prog 141 #[.agg #[.int .i64 (x : Int), .string s], .pointer (some ⟨B, 0, none⟩)] w fun e w' => e = .returned (.bool ((x : Int) == a)) ∧ ∃ o, w' = w.alloc o := by
  have hB' : ∀ o, (w.alloc o).cell? ⟨B, 0, none⟩ = some (.int .i64 a) := fun o => (World.cell?_alloc_past _ _ _ (World.block_lt_of_cell? w _ hB)).trans hB
  go_enter Tryd.func141, Tryd.ntmps141
  go_wp2
  go_ret
  exact ⟨rfl, _, rfl⟩

/-- Where a number stands first among those put; -1: nowhere. -/
def idx : List (Nat × ByteArray) → Int → Int
  | [], _ => -1
  | p :: r, a => if (p.1 : Int) = a then 0 else if idx r a < 0 then -1 else idx r a + 1
theorem idx_none : ∀ (l : List (Nat × ByteArray)) (a : Int), (∀ (j : Nat) (p : Nat × ByteArray), l[j]? = some p → (p.1 : Int) ≠ a) → idx l a = -1
  | [], _, _ => rfl
  | p :: r, a, h => by
    have h0 := h 0 p (by simp)
    rw [idx, idx_none r a fun j q hq => h (j + 1) q (by simpa using hq)]
    simp [h0]
theorem idx_hit : ∀ (l : List (Nat × ByteArray)) (a : Int) (i : Nat) (p : Nat × ByteArray), l[i]? = some p → (p.1 : Int) = a → (∀ j q, j < i → l[j]? = some q → (q.1 : Int) ≠ a) → idx l a = (i : Int)
  | [], _, _, _, h, _, _ => by simp at h
  | q :: r, a, 0, p, h, e, hn => by
    simp at h; subst h
    simp [idx, e]
  | q :: r, a, i + 1, p, h, e, hn => by
    have h0 := hn 0 q (by omega) (by simp)
    have ih := idx_hit r a i p (by simpa using h) e fun j q hj hq => hn (j + 1) q (by omega) (by simpa using hq)
    rw [idx, ih, if_neg h0, if_neg (by omega)]
    omega

set_option maxRecDepth 100000 in
set_option maxHeartbeats 1600000 in
theorem indexFunc_any (w : World) (qv : Value) (ps : List (Nat × ByteArray)) (B : Nat) (a : Int) (hq : w.ownsRow 0 159 2 qv ps.length (flat ps)) (hB : w.cell? ⟨B, 0, none⟩ = some (.int .i64 a)) (hl : ps.length ≤ 1000000) :
    Calls Tryd.prog 140 #[qv, .func (.func 141) #[] #[.pointer (some ⟨B, 0, none⟩)]] w fun e w' => e = .returned (.int .i64 (idx ps a)) ∧ Below w.heap.size w w' := by
  obtain ⟨ao, cap, hqv⟩ := ownsRow_form hq
  subst hqv
  have lB := World.block_lt_of_cell? w _ hB
  go_enter Tryd.func140, Tryd.ntmps140
  go_wp2_with fail
  go_loopw [8] (fun i wr => ∃ k : Nat, k ≤ ps.length ∧ i = .int .i64 k ∧ Below w.heap.size w wr ∧ ∀ j p, j < k → ps[j]? = some p → (p.1 : Int) ≠ a) (fun i _ => ps.length - (intOf i).toNat)
  case atStart => exact ⟨0, Nat.zero_le _, rfl, Below.refl _ _, fun j p hj _ => by omega⟩
  case round =>
    obtain ⟨k, hk, rfl, hb, hno⟩ := hrel
    have HN := hide hno
    clear hno
    by_cases hlt : k < ps.length
    · obtain ⟨p, hp⟩ : ∃ p, ps[k]? = some p := ⟨ps[k], List.getElem?_eq_getElem hlt⟩
      obtain ⟨g, capx, he, cA, cB, lg⟩ := row_at hq k p hp
      have hao : ao = some ⟨g, 0, none⟩ := by
        simp only [Value.slice.injEq] at he
        exact he.1
      subst hao
      clear he
      have cA' := (hb.cell (p := ⟨g, k * 2, none⟩) lg).trans cA
      have cB' := (hb.cell (p := ⟨g, k * 2 + 1, none⟩) lg).trans cB
      have hB' := (hb.cell (p := ⟨B, 0, none⟩) lB).trans hB
      have i0 : (0 : Int) ≤ (k : Int) := Int.natCast_nonneg _
      have i1 : (k : Int) < (ps.length : Int) := by omega
      have HP := hide hp
      clear hp
      go_wp2_with fail
      refine (find1_any _ _ _ _ _ hB').mono ?_
      rintro e w1 ⟨rfl, o, rfl⟩
      have hb1 : Below w.heap.size w (wr.alloc o) := hb.alloc hb.size o
      by_cases he : (p.1 : Int) = a
      · have hbe : ((p.1 : Int) == a) = true := by simpa using he
        have HI : Hid (idx ps a = (k : Int)) := idx_hit ps a k p (unhide HP) he (unhide HN)
        clear he
        rw [hbe]
        clear hbe
        go_wp2_with fail
        go_ret
        exact ⟨by rw [unhide HI]; rfl, hb1⟩
      · have hbe : ((p.1 : Int) == a) = false := by simpa using he
        have HK := hide he
        clear he
        rw [hbe]
        clear hbe
        go_wp2_with fail
        go_roundw
        case rel =>
          refine ⟨k + 1, by omega, by go_num, hb1, fun j q hj hq' => ?_⟩
          by_cases hjk : j = k
          · subst hjk
            rw [unhide HP] at hq'
            cases hq'
            exact unhide HK
          · exact (unhide HN) j q (by omega) hq'
        case measure => simp [intOf]; omega
    · have HI : Hid (idx ps a = -1) := idx_none ps a fun j q hq' => (unhide HN) j q (by
        rcases Nat.lt_or_ge j ps.length with h | h
        · omega
        · rw [List.getElem?_eq_none h] at hq'; cases hq') hq'
      go_wp2_with fail
      go_ret
      exact ⟨by rw [unhide HI]; rfl, hb⟩

/-- (*Log).find -/
theorem find_any (w : World) (bl : Nat) (pv : Value) (ps : List (Nat × ByteArray)) (a : Int) (hp : w.cell? ⟨bl, 1, none⟩ = some pv) (hq : w.ownsRow 0 159 2 pv ps.length (flat ps)) (hl : ps.length ≤ 1000000) :
    Calls Tryd.prog 126 #[.pointer (some ⟨bl, 0, none⟩), .int .i64 a] w fun e w' => e = .returned (.int .i64 (idx ps a)) ∧ Below w.heap.size w w' := by
  have hmf : ∀ (fn : Fn) (first cap : Array Value) (w : World), (Instr.makeFunc fn first cap).run Tryd.prog w = .ok (.func fn first cap) w := fun _ _ _ _ => rfl
  have hp' : ∀ o, (w.alloc o).cell? ⟨bl, 1, none⟩ = some pv := fun o => (World.cell?_alloc_past _ _ _ (World.block_lt_of_cell? w _ hp)).trans hp
  go_enter Tryd.func126, Tryd.ntmps126
  go_wp2_with fail
  refine (indexFunc_any _ pv ps w.heap.size a (hq.alloc _) (by rw [cell_of_row _ _ _ _ _ _ (heap_alloc_new w _)]; rfl) hl).mono ?_
  rintro e w1 ⟨rfl, hb⟩
  have hb' : Below w.heap.size w w1 := ((Below.refl _ _).alloc (Nat.le_refl _) _).trans (hb.mono (by simp))
  go_wp2_with fail
  go_ret
  exact ⟨rfl, hb'⟩
end Go.Proofs.YtcbindgpbeaebaaDoor

namespace Go.Proofs.YtcbindgpbeaebaaDoor
open Go.RowKit Go.Deep Go.Lib
attribute [local go_sem ↓] Go.wp_at_zero Go.wp_at_succ

/-- An array of 256 bytes 0, cell by cell. -/
def Z256 : Array Value := (List.replicate 256 (Value.int .u8 0)).toArray
theorem info_arr : (Tryd.prog.info? 190).map (fun i => i.zero) = some (some (.agg Z256)) := by kernel_rfl
theorem zero_arr (w : World) : (zeroValue 190).run Tryd.prog w = .ok (.agg Z256) w := by
  obtain ⟨i, hi, hz⟩ := Option.map_eq_some_iff.1 info_arr
  simp [zeroValue, typeInfo, hi, hz]
theorem info_u8s : (Tryd.prog.info? 5).map (·.size) = some 1 := by kernel_rfl

theorem alloc_setRow (w : World) (cs cs' : Array Value) (t : TypeId) : (w.alloc (.cells cs t (0, 0))).setRow w.heap.size cs' = w.alloc (.cells cs' t (0, 0)) := by
  simp only [World.setRow, World.alloc]
  congr 1
  apply Array.ext_getElem?
  intro i
  rw [Array.getElem?_modify]
  by_cases h : w.heap.size = i
  · subst h; simp
  · simp only [if_neg h]
    rw [Array.getElem?_push, Array.getElem?_push]
    simp [Ne.symm h]
theorem pad_list (s : ByteArray) : (pad s).data.toList = s.data.toList ++ List.replicate (256 - s.size) 0 := by
  rw [pad, ByteArray.data_append, Array.toList_append]
  rfl
theorem pad_len (s : ByteArray) (hs : s.size ≤ 256) : (pad s).data.toList.length = 256 := by
  rw [pad_list, List.length_append, List.length_replicate]
  show s.data.toList.length + _ = _
  rw [Array.length_toList]
  show s.size + _ = _
  omega
theorem Z256_size : Z256.size = 256 := by rw [Z256, List.size_toArray, List.length_replicate]

def bcs (s : ByteArray) : Array Value := (byteCells s.data.toList).toArray
set_option maxRecDepth 100000 in
theorem copy_whole (w : World) (s : ByteArray) (hs : s.size ≤ 256) :
    (Builtin.copy_ #[82, 9] 3 #[.slice (some ⟨w.heap.size, 0, none⟩) 256 256, .string s]).run Tryd.prog (w.alloc (.cells Z256 190)) = .ok (goInt s.size) (w.alloc (.cells (bcs (pad s)) 190)) := by
  have h := run_copy_row_string (P := Tryd.prog) (w.alloc (.cells Z256 190)) 82 9 3 5 w.heap.size 0 256 256 s Z256 190 Tryd.underlying82 info_u8s (heap_alloc_new w _) hs (by rw [Z256_size]; omega)
  rw [h, alloc_setRow]
  have e : (List.take 0 Z256.toList ++ byteCells s.data.toList ++ List.drop (0 + s.size) Z256.toList).toArray = bcs (pad s) := by
    rw [bcs, pad_list, List.take_zero, List.nil_append, Nat.zero_add]
    congr 1
    rw [byteCells, byteCells, List.map_append, List.map_replicate, Z256]
    congr 1
    rw [List.drop_replicate]
    rfl
  rw [e]
set_option maxRecDepth 100000 in
theorem conv_whole (w : World) (s : ByteArray) (hs : s.size ≤ 256) :
    (convert 82 9 (.slice (some ⟨w.heap.size, 0, none⟩) 256 256)).run Tryd.prog (w.alloc (.cells (bcs (pad s)) 190)) = .ok (.string (pad s)) (w.alloc (.cells (bcs (pad s)) 190)) := by
  have hl := pad_len s hs
  have h := run_convert_bytes_back (P := Tryd.prog) (w.alloc (.cells (bcs (pad s)) 190)) 82 9 5 ⟨w.heap.size, 0, none⟩ 256 (pad s).data.toList Tryd.underlying82 Tryd.underlying5 Tryd.underlying9 (fun j hj => by
    have hadd : (⟨w.heap.size, 0, none⟩ : Addr).add j = ⟨w.heap.size, j, none⟩ := by unfold Addr.add; split <;> simp_all
    rw [hadd, cell_of_row _ _ _ _ _ _ (heap_alloc_new w _)]
    rw [bcs, List.getElem?_toArray, byteCells, List.getElem?_map, List.getElem?_eq_getElem hj]
    rfl)
  rw [hl] at h
  exact h

set_option maxRecDepth 100000 in
set_option maxHeartbeats 1600000 in
theorem whole_any (w : World) (s : ByteArray) (hs : s.size ≤ 256) :
    Calls Tryd.prog 134 #[.string s] w fun e w' => e = .returned (.string (pad s)) ∧ ∃ o, w' = w.alloc o := by
  have hz := zero_arr
  have hcp := copy_whole w s hs
  have hcv := conv_whole w s hs
  go_enter Tryd.func134, Tryd.ntmps134
  go_wp2
  go_ret
  exact ⟨rfl, _, rfl⟩
end Go.Proofs.YtcbindgpbeaebaaDoor
