import Derived.Test.YtcbindgpbeaebaaDoorWalkE
namespace Go.Proofs.YtcbindgpbeaebaaDoor
open Go.RowKit Go.Deep

/-- The cells of a log's own block. -/
def lcells (bd : Nat) (pv : Value) (br : Bool) : Array Value := #[.pointer (some ⟨bd, 0, none⟩), pv, .bool br]
/-- A log in memory. -/
structure LAt (w : World) (bl bd : Nat) (pv : Value) (ps : List (Nat × ByteArray)) (br : Bool) : Prop where
  own : w.heap[bl]? = some (.cells (lcells bd pv br) 113 (0, 0))
  puts : w.ownsRow 0 159 2 pv ps.length (flat ps)
  np : pv.ownBlock ≠ some bl
section
variable {w : World} {bl bd : Nat} {pv : Value} {ps : List (Nat × ByteArray)} {br : Bool}
theorem LAt.cell (h : LAt w bl bd pv ps br) (i : Nat) : w.cell? ⟨bl, i, none⟩ = (lcells bd pv br)[i]? := cell_of_row w bl i _ _ _ h.own
theorem LAt.c0 (h : LAt w bl bd pv ps br) : w.cell? ⟨bl, 0, none⟩ = some (.pointer (some ⟨bd, 0, none⟩)) := by rw [h.cell]; rfl
theorem LAt.c1 (h : LAt w bl bd pv ps br) : w.cell? ⟨bl, 1, none⟩ = some pv := by rw [h.cell]; rfl
theorem LAt.c2 (h : LAt w bl bd pv ps br) : w.cell? ⟨bl, 2, none⟩ = some (.bool br) := by rw [h.cell]; rfl
theorem LAt.fz (h : LAt w bl bd pv ps br) (i : Nat) : w.frozen? ⟨bl, i, none⟩ = false := frozen_of_row w bl i _ _ h.own
theorem LAt.lt (h : LAt w bl bd pv ps br) : bl < w.heap.size := lt_of_heap h.own
theorem LAt.ltp (h : LAt w bl bd pv ps br) : ∀ k, pv.ownBlock = some k → k < w.heap.size := fun k hk => (h.puts.lt k hk).2
theorem LAt.kept {w' : World} (h : LAt w bl bd pv ps br) (hk : ∀ k, k < w.heap.size → (k = bl ∨ pv.ownBlock = some k) → w'.heap[k]? = w.heap[k]?) : LAt w' bl bd pv ps br :=
  ⟨(hk bl h.lt (.inl rfl)).trans h.own, ownsRow_kept h.puts fun g hg => hk g (h.ltp g hg) (.inr hg), h.np⟩
theorem LAt.below {w' : World} (h : LAt w bl bd pv ps br) (hb : Below w.heap.size w w') : LAt w' bl bd pv ps br := h.kept fun k hk _ => hb.block k hk
theorem LAt.alloc (h : LAt w bl bd pv ps br) (o : Obj) : LAt (w.alloc o) bl bd pv ps br := h.kept fun _ hk _ => Below.heap_alloc _ _ _ hk
theorem LAt.drew (h : LAt w bl bd pv ps br) : LAt w.drew bl bd pv ps br := h.kept fun _ _ _ => rfl
theorem LAt.setBroken (h : LAt w bl bd pv ps br) (b : Bool) : LAt (w.setCell ⟨bl, 2, none⟩ (.bool b)) bl bd pv ps b := by
  refine ⟨?_, ownsRow_setOther h.puts _ h.np _, h.np⟩
  rw [heap_setCell_same w bl 2 _ _ _ h.own]; simp [lcells]
theorem LAt.setPuts (h : LAt w bl bd pv ps br) (pv' : Value) (l : List (Nat × ByteArray)) (ho : w.ownsRow 0 159 2 pv' l.length (flat l)) (np : pv'.ownBlock ≠ some bl) : LAt (w.setCell ⟨bl, 1, none⟩ pv') bl bd pv' l br := by
  refine ⟨?_, ownsRow_setOther ho _ np _, np⟩
  rw [heap_setCell_same w bl 1 _ _ _ h.own]; simp [lcells]
end
theorem DAt.below {w w' : World} {bd bs : Nat} {lv : Value} {d : Dk} (h : DAt w bd bs lv d) (hb : Below w.heap.size w w') : DAt w' bd bs lv d := h.kept fun k hk _ => hb.block k hk
theorem DStep.ofBelow {w w' : World} {bd bs : Nat} {lv : Value} (hb : Below w.heap.size w w') : DStep bd bs lv lv w w' :=
  ⟨hb.os, hb.tape, hb.output, hb.size, fun k hk _ _ _ => hb.block k hk, fun _ h => .inl h⟩

/-- The blocks of a log and of its disk, from block B on, are all apart. -/
structure Sep (B bl bd bs : Nat) (pv lv : Value) : Prop where
  ld : bl ≠ bd
  ls : bl ≠ bs
  ll : lv.ownBlock ≠ some bl
  pd : pv.ownBlock ≠ some bd
  ps : pv.ownBlock ≠ some bs
  pl : ∀ g, pv.ownBlock = some g → lv.ownBlock ≠ some g
  bl0 : B ≤ bl
  bd0 : B ≤ bd
  bs0 : B ≤ bs
  bp0 : ∀ g, pv.ownBlock = some g → B ≤ g
  bv0 : ∀ g, lv.ownBlock = some g → B ≤ g

/-- A log and its disk in memory. -/
structure Sys (w : World) (B bl bd bs : Nat) (pv lv : Value) (ps : List (Nat × ByteArray)) (br : Bool) (d : Dk) : Prop where
  log : LAt w bl bd pv ps br
  disk : DAt w bd bs lv d
  sep : Sep B bl bd bs pv lv
  base : B ≤ w.heap.size
section
variable {w w' : World} {B bl bd bs : Nat} {pv lv : Value} {ps : List (Nat × ByteArray)} {br : Bool} {d : Dk}
theorem DStep.below {lv' : Value} (st : DStep bd bs lv lv' w w') (h1 : B ≤ bd) (h2 : B ≤ bs) (h3 : ∀ g, lv.ownBlock = some g → B ≤ g) (h4 : B ≤ w.heap.size) : Below B w w' :=
  ⟨st.os, st.tape, st.output, st.size, fun k hk => st.block k (by omega) (by omega) (by omega) (fun e => by have := h3 k e; omega)⟩
/-- A call that turns the disk alone. -/
theorem Sys.ofDisk (h : Sys w B bl bd bs pv lv ps br d) {lv' : Value} {d' : Dk} (hd : DAt w' bd bs lv' d') (st : DStep bd bs lv lv' w w') : Sys w' B bl bd bs pv lv' ps br d' ∧ Below B w w' := by
  obtain ⟨hl, hk, hs, hb⟩ := h
  have fr : ∀ g, lv'.ownBlock = some g → lv.ownBlock = some g ∨ w.heap.size ≤ g := st.fresh
  refine ⟨⟨hl.kept fun k hk' e => ?_, hd, ⟨hs.ld, hs.ls, fun e => ?_, hs.pd, hs.ps, fun g hg e => ?_, hs.bl0, hs.bd0, hs.bs0, hs.bp0, fun g hg => ?_⟩, Nat.le_trans hb st.size⟩, st.below hs.bd0 hs.bs0 hs.bv0 hb⟩
  · rcases e with rfl | e
    · exact st.block _ hk' hs.ld hs.ls hs.ll
    · exact st.block k hk' (fun e' => hs.pd (e' ▸ e)) (fun e' => hs.ps (e' ▸ e)) (hs.pl k e)
  · rcases fr _ e with e | e
    · exact hs.ll e
    · have := hl.lt; omega
  · rcases fr _ e with e | e
    · exact hs.pl g hg e
    · have := hl.ltp g hg; omega
  · rcases fr _ hg with e | e
    · exact hs.bv0 g e
    · omega
/-- A call that turns the log alone. -/
theorem Sys.ofLog (h : Sys w B bl bd bs pv lv ps br d) {pv' : Value} {ps' : List (Nat × ByteArray)} {br' : Bool} (hl' : LAt w' bl bd pv' ps' br') (st : DStep bl bl pv pv' w w') : Sys w' B bl bd bs pv' lv ps' br' d ∧ Below B w w' := by
  obtain ⟨hl, hk, hs, hb⟩ := h
  have fr : ∀ g, pv'.ownBlock = some g → pv.ownBlock = some g ∨ w.heap.size ≤ g := st.fresh
  refine ⟨⟨hl', hk.kept fun k hk' e => ?_, ⟨hs.ld, hs.ls, hs.ll, fun e => ?_, fun e => ?_, fun g hg e => ?_, hs.bl0, hs.bd0, hs.bs0, fun g hg => ?_, hs.bv0⟩, Nat.le_trans hb st.size⟩, st.below hs.bl0 hs.bl0 hs.bp0 hb⟩
  · rcases e with rfl | rfl | e
    · exact st.block _ hk' (Ne.symm hs.ld) (Ne.symm hs.ld) hs.pd
    · exact st.block _ hk' (Ne.symm hs.ls) (Ne.symm hs.ls) hs.ps
    · exact st.block k hk' (fun e' => hs.ll (e' ▸ e)) (fun e' => hs.ll (e' ▸ e)) (fun e' => hs.pl k e' e)
  · rcases fr _ e with e | e
    · exact hs.pd e
    · have := hk.ltd; omega
  · rcases fr _ e with e | e
    · exact hs.ps e
    · have := hk.lts; omega
  · rcases fr _ hg with e' | e'
    · exact hs.pl g e' e
    · have := hk.ltl g e; omega
  · rcases fr _ hg with e | e
    · exact hs.bp0 g e
    · omega
theorem Sys.offLog (h : Sys w B bl bd bs pv lv ps br d) : Off w bd bs lv bl := ⟨h.log.lt, h.sep.ld, h.sep.ls, h.sep.ll⟩
theorem Sys.queue (h : Sys w B bl bd bs pv lv ps br d) : QAt w bd bs lv pv ps :=
  ⟨h.log.puts, fun g hg => ⟨h.log.ltp g hg, fun e => h.sep.pd (e ▸ hg), fun e => h.sep.ps (e ▸ hg), h.sep.pl g hg⟩⟩
end

/-- What becomes of the world in a call of a log: of its own blocks and its disk's. -/
structure SStep (bl bd bs : Nat) (pv lv lv' : Value) (w w' : World) : Prop where
  size : w.heap.size ≤ w'.heap.size
  block : ∀ k, k < w.heap.size → k ≠ bl → k ≠ bd → k ≠ bs → pv.ownBlock ≠ some k → lv.ownBlock ≠ some k → w'.heap[k]? = w.heap[k]?
  fresh : ∀ g, lv'.ownBlock = some g → lv.ownBlock = some g ∨ w.heap.size ≤ g
theorem SStep.trans {bl bd bs : Nat} {pv lv lv' lv'' : Value} {w w' w'' : World} (h : SStep bl bd bs pv lv lv' w w') (k : SStep bl bd bs pv lv' lv'' w' w'') : SStep bl bd bs pv lv lv'' w w'' := by
  refine ⟨Nat.le_trans h.size k.size, fun i hi h1 h2 h3 h4 h5 => ?_, fun g hg => ?_⟩
  · rw [k.block i (Nat.lt_of_lt_of_le hi h.size) h1 h2 h3 h4, h.block i hi h1 h2 h3 h4 h5]
    intro e
    rcases h.fresh i e with e | e
    · exact h5 e
    · omega
  · rcases k.fresh g hg with e | e
    · exact h.fresh g e
    · exact .inr (Nat.le_trans h.size e)
theorem SStep.ofDisk {bl bd bs : Nat} {pv lv lv' : Value} {w w' : World} (h : DStep bd bs lv lv' w w') : SStep bl bd bs pv lv lv' w w' :=
  ⟨h.size, fun k hk _ h2 h3 _ h5 => h.block k hk h2 h3 h5, h.fresh⟩
theorem SStep.ofLog {bl bd bs : Nat} {pv pv' lv : Value} {w w' : World} (h : DStep bl bl pv pv' w w') : SStep bl bd bs pv lv lv w w' :=
  ⟨h.size, fun k hk h1 _ _ h4 _ => h.block k hk h1 h1 h4, fun _ h => .inl h⟩

theorem put_end {w1 w2 : World} {bl bd : Nat} {pv : Value} {ps : List (Nat × ByteArray)} {br : Bool} {o p : Obj} {gg cap : Nat} {k : Nat} {s : ByteArray} (h1 : LAt w1 bl bd pv ps br)
    (hown1 : w2.ownsRow 0 159 2 (.slice (some ⟨gg, 0, none⟩) (ps.length + 1) cap) (ps.length + 1) (flat ps ++ [.int .i64 (k : Int), .string s]))
    (hgrow : ((w1.alloc o).alloc p).drew.grownBy w2 pv.ownBlock) (hat : pv.ownBlock = some gg ∨ gg = w1.heap.size + 2) :
    LAt (w2.setCell ⟨bl, 1, none⟩ (.slice (some ⟨gg, 0, none⟩) (ps.length + 1) cap)) bl bd (.slice (some ⟨gg, 0, none⟩) (ps.length + 1) cap) (ps ++ [(k, s)]) br ∧
      DStep bl bl pv (.slice (some ⟨gg, 0, none⟩) (ps.length + 1) cap) w1 (w2.setCell ⟨bl, 1, none⟩ (.slice (some ⟨gg, 0, none⟩) (ps.length + 1) cap)) := by
  have h3 := ((h1.alloc o).alloc p).drew
  have e3 : ((w1.alloc o).alloc p).drew.heap.size = w1.heap.size + 2 := by
    show ((w1.alloc o).alloc p).heap.size = _
    simp
  have ld := h1.lt
  have gd : gg ≠ bl := by
    rcases hat with e | e
    · exact fun e' => h1.np (e' ▸ e)
    · omega
  refine ⟨⟨?_, ?_, ?_⟩, ?_⟩
  · rw [heap_setCell_same w2 bl 1 (lcells bd pv br) 113 _ ((hgrow.block bl (by omega) (Ne.symm h1.np)).trans h3.own)]
    simp [lcells]
  · have hf : flat (ps ++ [(k, s)]) = flat ps ++ [.int .i64 (k : Int), .string s] := by rw [flat_app]; rfl
    rw [hf, List.length_append]
    exact ownsRow_setOther hown1 _ (by simp [Value.ownBlock, gd]) _
  · simp [Value.ownBlock, gd]
  · refine ⟨hgrow.os, hgrow.tape, hgrow.output, ?_, ?_, ?_⟩
    · have := hgrow.size
      rw [e3] at this
      simp [World.setCell]; omega
    · intro q hq a b c
      rw [Below.heap_setCell _ _ _ _ a, hgrow.block q (by omega) (Ne.symm c)]
      show ((w1.alloc o).alloc p).heap[q]? = _
      rw [Below.heap_alloc _ _ _ (by simp; omega), Below.heap_alloc _ _ _ hq]
    · intro g hg
      have : gg = g := by simpa [Value.ownBlock] using hg
      subst this
      rcases hat with e | e
      · exact .inl e
      · exact .inr (by omega)

/-- One text among the puts is another. -/
theorem flat_set : ∀ (l : List (Nat × ByteArray)) (i : Nat) (p : Nat × ByteArray) (s : ByteArray), l[i]? = some p → flat (l.set i (p.1, s)) = (flat l).set (i * 2 + 1) (.string s)
  | [], _, _, _, h => by simp at h
  | q :: r, 0, p, s, h => by simp at h; subst h; simp [flat]
  | q :: r, i + 1, p, s, h => by
    have ih := flat_set r i p s (by simpa using h)
    rw [show (i + 1) * 2 + 1 = (i * 2 + 1) + 1 + 1 by omega]
    simp [flat, ih]
theorem put_again {w1 : World} {bl bd : Nat} {ps : List (Nat × ByteArray)} {br : Bool} {g cap i : Nat} {p : Nat × ByteArray} (s : ByteArray) (h1 : LAt w1 bl bd (.slice (some ⟨g, 0, none⟩) ps.length cap) ps br) (hi : ps[i]? = some p) :
    LAt (w1.setCell ⟨g, i * 2 + 1, none⟩ (.string s)) bl bd (.slice (some ⟨g, 0, none⟩) ps.length cap) (ps.set i (p.1, s)) br ∧
      DStep bl bl (.slice (some ⟨g, 0, none⟩) ps.length cap) (.slice (some ⟨g, 0, none⟩) ps.length cap) w1 (w1.setCell ⟨g, i * 2 + 1, none⟩ (.string s)) := by
  have gl : g ≠ bl := fun e => h1.np (by simp [Value.ownBlock, e])
  refine ⟨⟨?_, ?_, h1.np⟩, rfl, rfl, rfl, by simp [World.setCell], fun k _ _ _ c => Below.heap_setCell _ _ _ _ (fun e => c (by simp [Value.ownBlock, e])), fun _ h => .inl h⟩
  · rw [Below.heap_setCell _ _ _ _ (Ne.symm gl)]; exact h1.own
  · obtain ⟨hl, hv⟩ := h1.puts
    refine ⟨by rw [flat_len, List.length_set], ?_⟩
    rcases hv with ⟨hv, _⟩ | ⟨g', cap', cur, hv, hb, hg, hc, hm, hsz, ht⟩
    · cases hv
    · simp only [Value.slice.injEq, Option.some.injEq, Addr.mk.injEq, and_true] at hv
      obtain ⟨rfl, _, rfl⟩ := hv
      refine .inr ⟨g, cap, cur.setIfInBounds (i * 2 + 1) (.string s), by rw [List.length_set], hb, heap_setCell_same w1 g _ cur _ _ hg, by rw [List.length_set]; exact hc, hm, by simpa using hsz, ?_⟩
      rw [List.length_set, flat_set ps i p s hi, Array.toList_setIfInBounds, ← ht, List.take_set]
end Go.Proofs.YtcbindgpbeaebaaDoor
