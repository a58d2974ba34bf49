import Derived.Test.YtcbindgpbeaebaaGreatDoorWalkC
namespace Go.Proofs.YtcbindgpbeaebaaGreatDoor
open Go.RowKit Go.Deep

/-- The cells of a log's own block. -/
def lcells (bd : Nat) (pv : Value) (br : Bool) : Array Value := #[.pointer (some ⟨bd, 0, none⟩), pv, .bool br]
/-- A log in memory. -/
structure LAt (w : World) (bl bd : Nat) (pv : Value) (ps : List (Nat × ByteArray)) (br : Bool) : Prop where
  own : w.heap[bl]? = some (.cells (lcells bd pv br) 183 (0, 0))
  puts : w.ownsRow 0 244 2 pv ps.length (flat ps)
  np : pv.ownBlock ≠ some bl
section
variable {w : World} {bl bd : Nat} {pv : Value} {ps : List (Nat × ByteArray)} {br : Bool}
theorem LAt.cell (h : LAt w bl bd pv ps br) (i : Nat) : w.cell? ⟨bl, i, none⟩ = (lcells bd pv br)[i]? := cell_of_row w bl i _ _ _ h.own
theorem LAt.c0 (h : LAt w bl bd pv ps br) : w.cell? ⟨bl, 0, none⟩ = some (.pointer (some ⟨bd, 0, none⟩)) := by rw [h.cell]; rfl
theorem LAt.c1 (h : LAt w bl bd pv ps br) : w.cell? ⟨bl, 1, none⟩ = some pv := by rw [h.cell]; rfl
theorem LAt.c2 (h : LAt w bl bd pv ps br) : w.cell? ⟨bl, 2, none⟩ = some (.bool br) := by rw [h.cell]; rfl
theorem LAt.fz (h : LAt w bl bd pv ps br) (i : Nat) : w.frozen? ⟨bl, i, none⟩ = false := frozen_of_row w bl i _ _ h.own
theorem LAt.lt (h : LAt w bl bd pv ps br) : bl < w.heap.size := lt_of_heap h.own
theorem LAt.ltp (h : LAt w bl bd pv ps br) : ∀ k, pv.ownBlock = some k → k < w.heap.size := fun k hk => (h.puts.lt k hk).2
theorem LAt.kept {w' : World} (h : LAt w bl bd pv ps br) (hk : ∀ k, k < w.heap.size → (k = bl ∨ pv.ownBlock = some k) → w'.heap[k]? = w.heap[k]?) : LAt w' bl bd pv ps br :=
  ⟨(hk bl h.lt (.inl rfl)).trans h.own, ownsRow_kept h.puts fun g hg => hk g (h.ltp g hg) (.inr hg), h.np⟩
theorem LAt.below {w' : World} (h : LAt w bl bd pv ps br) (hb : Below w.heap.size w w') : LAt w' bl bd pv ps br := h.kept fun k hk _ => hb.block k hk
theorem LAt.alloc (h : LAt w bl bd pv ps br) (o : Obj) : LAt (w.alloc o) bl bd pv ps br := h.kept fun _ hk _ => Below.heap_alloc _ _ _ hk
theorem LAt.drew (h : LAt w bl bd pv ps br) : LAt w.drew bl bd pv ps br := h.kept fun _ _ _ => rfl
theorem LAt.setBroken (h : LAt w bl bd pv ps br) (b : Bool) : LAt (w.setCell ⟨bl, 2, none⟩ (.bool b)) bl bd pv ps b := by
  refine ⟨?_, ownsRow_setOther h.puts _ h.np _, h.np⟩
  rw [heap_setCell_same w bl 2 _ _ _ h.own]; simp [lcells]
theorem LAt.setPuts (h : LAt w bl bd pv ps br) (pv' : Value) (l : List (Nat × ByteArray)) (ho : w.ownsRow 0 244 2 pv' l.length (flat l)) (np : pv'.ownBlock ≠ some bl) : LAt (w.setCell ⟨bl, 1, none⟩ pv') bl bd pv' l br := by
  refine ⟨?_, ownsRow_setOther ho _ np _, np⟩
  rw [heap_setCell_same w bl 1 _ _ _ h.own]; simp [lcells]
end
theorem DAt.below {w w' : World} {bd bs : Nat} {lv : Value} {d : Dk} (h : DAt w bd bs lv d) (hb : Below w.heap.size w w') : DAt w' bd bs lv d := h.kept fun k hk _ => hb.block k hk
theorem DStep.ofBelow {w w' : World} {bd bs : Nat} {lv : Value} (hb : Below w.heap.size w w') : DStep bd bs lv lv w w' :=
  ⟨hb.os, hb.tape, hb.output, hb.size, fun k hk _ _ _ => hb.block k hk, fun _ h => .inl h⟩

/-- The blocks of a log and of its disk, from block B on, are all apart. -/
structure Sep (B bl bd bs : Nat) (pv lv : Value) : Prop where
  ld : bl ≠ bd
  ls : bl ≠ bs
  ll : lv.ownBlock ≠ some bl
  pd : pv.ownBlock ≠ some bd
  ps : pv.ownBlock ≠ some bs
  pl : ∀ g, pv.ownBlock = some g → lv.ownBlock ≠ some g
  bl0 : B ≤ bl
  bd0 : B ≤ bd
  bs0 : B ≤ bs
  bp0 : ∀ g, pv.ownBlock = some g → B ≤ g
  bv0 : ∀ g, lv.ownBlock = some g → B ≤ g

/-- A log and its disk in memory. -/
structure Sys (w : World) (B bl bd bs : Nat) (pv lv : Value) (ps : List (Nat × ByteArray)) (br : Bool) (d : Dk) : Prop where
  log : LAt w bl bd pv ps br
  disk : DAt w bd bs lv d
  sep : Sep B bl bd bs pv lv
  base : B ≤ w.heap.size
section
variable {w w' : World} {B bl bd bs : Nat} {pv lv : Value} {ps : List (Nat × ByteArray)} {br : Bool} {d : Dk}
theorem DStep.below {lv' : Value} (st : DStep bd bs lv lv' w w') (h1 : B ≤ bd) (h2 : B ≤ bs) (h3 : ∀ g, lv.ownBlock = some g → B ≤ g) (h4 : B ≤ w.heap.size) : Below B w w' :=
  ⟨st.os, st.tape, st.output, st.size, fun k hk => st.block k (by omega) (by omega) (by omega) (fun e => by have := h3 k e; omega)⟩
/-- A call that turns the disk alone. -/
theorem Sys.ofDisk (h : Sys w B bl bd bs pv lv ps br d) {lv' : Value} {d' : Dk} (hd : DAt w' bd bs lv' d') (st : DStep bd bs lv lv' w w') : Sys w' B bl bd bs pv lv' ps br d' ∧ Below B w w' := by
  obtain ⟨hl, hk, hs, hb⟩ := h
  have fr : ∀ g, lv'.ownBlock = some g → lv.ownBlock = some g ∨ w.heap.size ≤ g := st.fresh
  refine ⟨⟨hl.kept fun k hk' e => ?_, hd, ⟨hs.ld, hs.ls, fun e => ?_, hs.pd, hs.ps, fun g hg e => ?_, hs.bl0, hs.bd0, hs.bs0, hs.bp0, fun g hg => ?_⟩, Nat.le_trans hb st.size⟩, st.below hs.bd0 hs.bs0 hs.bv0 hb⟩
  · rcases e with rfl | e
    · exact st.block _ hk' hs.ld hs.ls hs.ll
    · exact st.block k hk' (fun e' => hs.pd (e' ▸ e)) (fun e' => hs.ps (e' ▸ e)) (hs.pl k e)
  · rcases fr _ e with e | e
    · exact hs.ll e
    · have := hl.lt; omega
  · rcases fr _ e with e | e
    · exact hs.pl g hg e
    · have := hl.ltp g hg; omega
  · rcases fr _ hg with e | e
    · exact hs.bv0 g e
    · omega
/-- A call that turns the log alone. -/
theorem Sys.ofLog (h : Sys w B bl bd bs pv lv ps br d) {pv' : Value} {ps' : List (Nat × ByteArray)} {br' : Bool} (hl' : LAt w' bl bd pv' ps' br') (st : DStep bl bl pv pv' w w') : Sys w' B bl bd bs pv' lv ps' br' d ∧ Below B w w' := by
  obtain ⟨hl, hk, hs, hb⟩ := h
  have fr : ∀ g, pv'.ownBlock = some g → pv.ownBlock = some g ∨ w.heap.size ≤ g := st.fresh
  refine ⟨⟨hl', hk.kept fun k hk' e => ?_, ⟨hs.ld, hs.ls, hs.ll, fun e => ?_, fun e => ?_, fun g hg e => ?_, hs.bl0, hs.bd0, hs.bs0, fun g hg => ?_, hs.bv0⟩, Nat.le_trans hb st.size⟩, st.below hs.bl0 hs.bl0 hs.bp0 hb⟩
  · rcases e with rfl | rfl | e
    · exact st.block _ hk' (Ne.symm hs.ld) (Ne.symm hs.ld) hs.pd
    · exact st.block _ hk' (Ne.symm hs.ls) (Ne.symm hs.ls) hs.ps
    · exact st.block k hk' (fun e' => hs.ll (e' ▸ e)) (fun e' => hs.ll (e' ▸ e)) (fun e' => hs.pl k e' e)
  · rcases fr _ e with e | e
    · exact hs.pd e
    · have := hk.ltd; omega
  · rcases fr _ e with e | e
    · exact hs.ps e
    · have := hk.lts; omega
  · rcases fr _ hg with e' | e'
    · exact hs.pl g e' e
    · have := hk.ltl g e; omega
  · rcases fr _ hg with e | e
    · exact hs.bp0 g e
    · omega
theorem Sys.offLog (h : Sys w B bl bd bs pv lv ps br d) : Off w bd bs lv bl := ⟨h.log.lt, h.sep.ld, h.sep.ls, h.sep.ll⟩
theorem Sys.queue (h : Sys w B bl bd bs pv lv ps br d) : QAt w bd bs lv pv ps :=
  ⟨h.log.puts, fun g hg => ⟨h.log.ltp g hg, fun e => h.sep.pd (e ▸ hg), fun e => h.sep.ps (e ▸ hg), h.sep.pl g hg⟩⟩
end

/-- What becomes of the world in a call of a log: of its own blocks and its disk's. -/
structure SStep (bl bd bs : Nat) (pv lv lv' : Value) (w w' : World) : Prop where
  size : w.heap.size ≤ w'.heap.size
  block : ∀ k, k < w.heap.size → k ≠ bl → k ≠ bd → k ≠ bs → pv.ownBlock ≠ some k → lv.ownBlock ≠ some k → w'.heap[k]? = w.heap[k]?
  fresh : ∀ g, lv'.ownBlock = some g → lv.ownBlock = some g ∨ w.heap.size ≤ g
theorem SStep.trans {bl bd bs : Nat} {pv lv lv' lv'' : Value} {w w' w'' : World} (h : SStep bl bd bs pv lv lv' w w') (k : SStep bl bd bs pv lv' lv'' w' w'') : SStep bl bd bs pv lv lv'' w w'' := by
  refine ⟨Nat.le_trans h.size k.size, fun i hi h1 h2 h3 h4 h5 => ?_, fun g hg => ?_⟩
  · rw [k.block i (Nat.lt_of_lt_of_le hi h.size) h1 h2 h3 h4, h.block i hi h1 h2 h3 h4 h5]
    intro e
    rcases h.fresh i e with e | e
    · exact h5 e
    · omega
  · rcases k.fresh g hg with e | e
    · exact h.fresh g e
    · exact .inr (Nat.le_trans h.size e)
theorem SStep.ofDisk {bl bd bs : Nat} {pv lv lv' : Value} {w w' : World} (h : DStep bd bs lv lv' w w') : SStep bl bd bs pv lv lv' w w' :=
  ⟨h.size, fun k hk _ h2 h3 _ h5 => h.block k hk h2 h3 h5, h.fresh⟩
theorem SStep.ofLog {bl bd bs : Nat} {pv pv' lv : Value} {w w' : World} (h : DStep bl bl pv pv' w w') : SStep bl bd bs pv lv lv w w' :=
  ⟨h.size, fun k hk h1 _ _ h4 _ => h.block k hk h1 h1 h4, fun _ h => .inl h⟩

theorem put_end {w1 w2 : World} {bl bd : Nat} {pv : Value} {ps : List (Nat × ByteArray)} {br : Bool} {o p : Obj} {gg cap : Nat} {k : Nat} {s : ByteArray} (h1 : LAt w1 bl bd pv ps br)
    (hown1 : w2.ownsRow 0 244 2 (.slice (some ⟨gg, 0, none⟩) (ps.length + 1) cap) (ps.length + 1) (flat ps ++ [.int .i64 (k : Int), .string s]))
    (hgrow : ((w1.alloc o).alloc p).drew.grownBy w2 pv.ownBlock) (hat : pv.ownBlock = some gg ∨ gg = w1.heap.size + 2) :
    LAt (w2.setCell ⟨bl, 1, none⟩ (.slice (some ⟨gg, 0, none⟩) (ps.length + 1) cap)) bl bd (.slice (some ⟨gg, 0, none⟩) (ps.length + 1) cap) (ps ++ [(k, s)]) br ∧
      DStep bl bl pv (.slice (some ⟨gg, 0, none⟩) (ps.length + 1) cap) w1 (w2.setCell ⟨bl, 1, none⟩ (.slice (some ⟨gg, 0, none⟩) (ps.length + 1) cap)) := by
  have h3 := ((h1.alloc o).alloc p).drew
  have e3 : ((w1.alloc o).alloc p).drew.heap.size = w1.heap.size + 2 := by
    show ((w1.alloc o).alloc p).heap.size = _
    simp
  have ld := h1.lt
  have gd : gg ≠ bl := by
    rcases hat with e | e
    · exact fun e' => h1.np (e' ▸ e)
    · omega
  refine ⟨⟨?_, ?_, ?_⟩, ?_⟩
  · rw [heap_setCell_same w2 bl 1 (lcells bd pv br) 183 _ ((hgrow.block bl (by omega) (Ne.symm h1.np)).trans h3.own)]
    simp [lcells]
  · have hf : flat (ps ++ [(k, s)]) = flat ps ++ [.int .i64 (k : Int), .string s] := by rw [flat_app]; rfl
    rw [hf, List.length_append]
    exact ownsRow_setOther hown1 _ (by simp [Value.ownBlock, gd]) _
  · simp [Value.ownBlock, gd]
  · refine ⟨hgrow.os, hgrow.tape, hgrow.output, ?_, ?_, ?_⟩
    · have := hgrow.size
      rw [e3] at this
      simp [World.setCell]; omega
    · intro q hq a b c
      rw [Below.heap_setCell _ _ _ _ a, hgrow.block q (by omega) (Ne.symm c)]
      show ((w1.alloc o).alloc p).heap[q]? = _
      rw [Below.heap_alloc _ _ _ (by simp; omega), Below.heap_alloc _ _ _ hq]
    · intro g hg
      have : gg = g := by simpa [Value.ownBlock] using hg
      subst this
      rcases hat with e | e
      · exact .inl e
      · exact .inr (by omega)

/-- One text among the puts is another. -/
theorem flat_set : ∀ (l : List (Nat × ByteArray)) (i : Nat) (p : Nat × ByteArray) (s : ByteArray), l[i]? = some p → flat (l.set i (p.1, s)) = (flat l).set (i * 2 + 1) (.string s)
  | [], _, _, _, h => by simp at h
  | q :: r, 0, p, s, h => by simp at h; subst h; simp [flat]
  | q :: r, i + 1, p, s, h => by
    have ih := flat_set r i p s (by simpa using h)
    rw [show (i + 1) * 2 + 1 = (i * 2 + 1) + 1 + 1 by omega]
    simp [flat, ih]
theorem put_again {w1 : World} {bl bd : Nat} {ps : List (Nat × ByteArray)} {br : Bool} {g cap i : Nat} {p : Nat × ByteArray} (s : ByteArray) (h1 : LAt w1 bl bd (.slice (some ⟨g, 0, none⟩) ps.length cap) ps br) (hi : ps[i]? = some p) :
    LAt (w1.setCell ⟨g, i * 2 + 1, none⟩ (.string s)) bl bd (.slice (some ⟨g, 0, none⟩) ps.length cap) (ps.set i (p.1, s)) br ∧
      DStep bl bl (.slice (some ⟨g, 0, none⟩) ps.length cap) (.slice (some ⟨g, 0, none⟩) ps.length cap) w1 (w1.setCell ⟨g, i * 2 + 1, none⟩ (.string s)) := by
  have gl : g ≠ bl := fun e => h1.np (by simp [Value.ownBlock, e])
  refine ⟨⟨?_, ?_, h1.np⟩, rfl, rfl, rfl, by simp [World.setCell], fun k _ _ _ c => Below.heap_setCell _ _ _ _ (fun e => c (by simp [Value.ownBlock, e])), fun _ h => .inl h⟩
  · rw [Below.heap_setCell _ _ _ _ (Ne.symm gl)]; exact h1.own
  · obtain ⟨hl, hv⟩ := h1.puts
    refine ⟨by rw [flat_len, List.length_set], ?_⟩
    rcases hv with ⟨hv, _⟩ | ⟨g', cap', cur, hv, hb, hg, hc, hm, hsz, ht⟩
    · cases hv
    · simp only [Value.slice.injEq, Option.some.injEq, Addr.mk.injEq, and_true] at hv
      obtain ⟨rfl, _, rfl⟩ := hv
      refine .inr ⟨g, cap, cur.setIfInBounds (i * 2 + 1) (.string s), by rw [List.length_set], hb, heap_setCell_same w1 g _ cur _ _ hg, by rw [List.length_set]; exact hc, hm, by simpa using hsz, ?_⟩
      rw [List.length_set, flat_set ps i p s hi, Array.toList_setIfInBounds, ← ht, List.take_set]
end Go.Proofs.YtcbindgpbeaebaaGreatDoor

namespace Go.Proofs.YtcbindgpbeaebaaGreatDoor
open Go.RowKit Go.Deep
attribute [local go_sem ↓] Go.wp_at_zero Go.wp_at_succ

theorem info_put : (Tryz.prog.info? 244).map (fun i => (i.zero, i.size, i.bytes)) = some (some (.agg #[.int .i64 0, .string ByteArray.empty]), 2, 24) := by kernel_rfl

/-- (*Log).Put -/
def putL (n : Nat) (ps : List (Nat × ByteArray)) (a : Int) (s : ByteArray) : Int × List (Nat × ByteArray) :=
  if hasB n a = false ∨ 256 < s.size then (1, ps)
  else if 0 ≤ idx ps a then (0, ps.set (idx ps a).toNat (a.toNat, pad s))
  else if ps.length = 80 then (8, ps)
  else (0, ps ++ [(a.toNat, pad s)])

theorem idx_at : ∀ (l : List (Nat × ByteArray)) (a : Int), 0 ≤ idx l a → ∃ p, l[(idx l a).toNat]? = some p ∧ (p.1 : Int) = a
  | [], a, h => by simp [idx] at h
  | q :: r, a, h => by
    by_cases e : (q.1 : Int) = a
    · exact ⟨q, by simp [idx, e], e⟩
    · by_cases hn : idx r a < 0
      · simp [idx, e, hn] at h
      · obtain ⟨p, hp, he⟩ := idx_at r a (by omega)
        refine ⟨p, ?_, he⟩
        rw [idx, if_neg e, if_neg hn, show (idx r a + 1).toNat = (idx r a).toNat + 1 by omega]
        simpa using hp

set_option maxRecDepth 100000 in
set_option maxHeartbeats 3200000 in
theorem put_any (w : World) (bl bd bs : Nat) (pv lv : Value) (ps : List (Nat × ByteArray)) (br : Bool) (d : Dk) (a : Int) (s : ByteArray) (hl : LAt w bl bd pv ps br) (h : DAt w bd bs lv d) (hn : d.safe.length ≤ 4096) (hp : ps.length ≤ 80) :
    Calls Tryz.prog 213 #[.pointer (some ⟨bl, 0, none⟩), .int .i64 a, .string s] w fun e w' => ∃ pv', e = .returned (.int .i64 (putL d.safe.length ps a s).1) ∧ LAt w' bl bd pv' (putL d.safe.length ps a s).2 br ∧ DStep bl bl pv pv' w w' := by
  have c0 := hl.c0
  have c1 := hl.c1
  cases hh : hasB d.safe.length a with
  | false =>
    have HR : Hid (putL d.safe.length ps a s = (1, ps)) := by show putL d.safe.length ps a s = _; simp [putL, hh]
    have HH := hide hh
    clear hh
    go_enter Tryz.func213, Tryz.ntmps213
    go_wp2_with fail
    refine (has_any _ _ _ _ _ _ _ c0 h hn).mono ?_
    rintro e w1 ⟨rfl, rfl⟩
    rw [unhide HH]
    go_wp2_with fail
    go_ret
    exact ⟨pv, by rw [unhide HR]; rfl, by rw [unhide HR]; exact hl, DStep.refl _ _ _ _⟩
  | true =>
    by_cases hs : 256 < s.size
    · have HR : Hid (putL d.safe.length ps a s = (1, ps)) := by show putL d.safe.length ps a s = _; simp [putL, hs]
      have hs' : (256 : Int) < (s.size : Int) := by omega
      have HH := hide hh
      clear hh
      go_enter Tryz.func213, Tryz.ntmps213
      go_wp2_with fail
      refine (has_any _ _ _ _ _ _ _ c0 h hn).mono ?_
      rintro e w1 ⟨rfl, rfl⟩
      rw [unhide HH]
      go_wp2_with fail
      go_ret
      exact ⟨pv, by rw [unhide HR]; rfl, by rw [unhide HR]; exact hl, DStep.refl _ _ _ _⟩
    · have hs' : ¬ (256 : Int) < (s.size : Int) := by omega
      have ha : 0 ≤ a := by simp [hasB] at hh; omega
      obtain ⟨k, rfl⟩ := Int.eq_ofNat_of_zero_le ha
      have HH := hide hh
      clear hh
      by_cases hi : 0 ≤ idx ps (k : Int)
      · obtain ⟨p, hpi, hpe⟩ := idx_at ps k hi
        have hpk : p.1 = k := by omega
        have HR : Hid (putL d.safe.length ps k s = (0, ps.set (idx ps k).toNat (p.1, pad s))) := by
          show putL d.safe.length ps k s = _
          simp [putL, unhide HH, hs, hi, hpk]
        obtain ⟨g, cap, hpv, cA, cB, lg⟩ := row_at hl.puts _ p hpi
        subst hpv
        obtain ⟨i, hii⟩ := Int.eq_ofNat_of_zero_le hi
        have hlt : i < ps.length := by
          rw [hii, Int.toNat_natCast] at hpi
          exact (List.getElem?_eq_some_iff.1 hpi).1
        rw [hii, Int.toNat_natCast] at hpi
        have HI := hide hii
        have HP := hide hpi
        clear hpi hii hpe hpk hi cA cB
        go_enter Tryz.func213, Tryz.ntmps213
        go_wp2_with fail
        refine (has_any _ _ _ _ _ _ _ c0 h hn).mono ?_
        rintro e w1 ⟨rfl, rfl⟩
        rw [unhide HH]
        go_wp2_with fail
        refine (find_any _ _ _ ps _ c1 hl.puts (by omega)).mono ?_
        rintro e w1 ⟨rfl, hb⟩
        rw [unhide HI]
        have hl1 := hl.below hb
        have d1 := hl1.c1
        have nn := World.new_ne w1 _ d1
        obtain ⟨_, _, he, _, cB1, lg1⟩ := row_at hl1.puts i p (unhide HP)
        simp only [Value.slice.injEq, Option.some.injEq, Addr.mk.injEq, and_true] at he
        obtain ⟨rfl, _, rfl⟩ := he
        have zB1 : ∀ o, (w1.alloc o).frozen? ⟨g, i * 2 + 1, none⟩ = false := fun o => by
          have hz := (hl1.alloc o).puts
          rcases hz.2 with ⟨hv, _⟩ | ⟨g', cap', cur, hv, _, hg, _⟩
          · cases hv
          · simp only [Value.slice.injEq, Option.some.injEq, Addr.mk.injEq, and_true] at hv
            obtain ⟨rfl, _, rfl⟩ := hv
            exact frozen_of_row _ _ _ _ _ hg
        have cB2 : ∀ o, (w1.alloc o).cell? ⟨g, i * 2 + 1, none⟩ = some (.string p.2) := fun o => (World.cell?_alloc_past _ _ _ lg1).trans cB1
        have i0 : (0 : Int) ≤ (i : Int) := Int.natCast_nonneg _
        have i1 : (i : Int) < (ps.length : Int) := by omega
        have d2 : ∀ o, (w1.alloc o).cell? ⟨bl, 1, none⟩ = some (.slice (some ⟨g, 0, none⟩) ps.length cap) := fun o => (hl1.alloc o).c1
        have hs2 : s.size ≤ 256 := by omega
        go_wp2_with fail
        go_region_law ((go_simp; go_at_call 227; refine (whole_any _ _ ?_).mono ?_; (· omega); rintro e w' ⟨rfl, o, rfl⟩))
        all_goals
          go_wp2
          go_ret
          have hE := put_again (pad s) hl1 (unhide HP)
          refine ⟨.slice (some ⟨g, 0, none⟩) ps.length cap, by rw [unhide HR]; rfl, ?_, (DStep.ofBelow hb).trans ((hE.2.alloc o).drew)⟩
          rw [unhide HR, unhide HI, Int.toNat_natCast]
          exact (hE.1.alloc o).drew
      · have hif : idx ps (k : Int) < 0 := by omega
        by_cases hfull : ps.length = 80
        · have HR : Hid (putL d.safe.length ps k s = (8, ps)) := by
            show putL d.safe.length ps k s = _
            simp [putL, unhide HH, hs, hi, hfull]
          have hfb : ((ps.length : Int) == 80) = true := by simp [hfull]
          obtain ⟨ao, cap, hpv⟩ := ownsRow_form hl.puts
          subst hpv
          clear hfull
          go_enter Tryz.func213, Tryz.ntmps213
          go_wp2_with fail
          refine (has_any _ _ _ _ _ _ _ c0 h hn).mono ?_
          rintro e w1 ⟨rfl, rfl⟩
          rw [unhide HH]
          go_wp2_with fail
          refine (find_any _ _ _ ps _ c1 hl.puts (by omega)).mono ?_
          rintro e w1 ⟨rfl, hb⟩
          have hl1 := hl.below hb
          have d1 := hl1.c1
          go_wp2_with fail
          go_ret
          exact ⟨_, by rw [unhide HR]; rfl, by rw [unhide HR]; exact hl1, DStep.ofBelow hb⟩
        · have HR : Hid (putL d.safe.length ps k s = (0, ps ++ [(k, pad s)])) := by
            show putL d.safe.length ps k s = _
            simp [putL, unhide HH, hs, hi, hfull]
          have hfb : ((ps.length : Int) == 80) = false := by simp; omega
          obtain ⟨ao, cap, hpv⟩ := ownsRow_form hl.puts
          subst hpv
          clear hfull
          obtain ⟨i0, hi0, hz0, hz1, hz2⟩ := info_parts info_put
          go_enter Tryz.func213, Tryz.ntmps213
          go_wp2_with fail
          refine (has_any _ _ _ _ _ _ _ c0 h hn).mono ?_
          rintro e w1 ⟨rfl, rfl⟩
          rw [unhide HH]
          go_wp2_with fail
          refine (find_any _ _ _ ps _ c1 hl.puts (by omega)).mono ?_
          rintro e w1 ⟨rfl, hb⟩
          have hl1 := hl.below hb
          have d1 := hl1.c1
          have nn := World.new_ne w1 _ d1
          have hown := hl1.puts
          have lt1 := hl1.lt
          have hs2 : s.size ≤ 256 := by omega
          go_wp2_with fail
          go_region_law ((first
            | (refine step_append_lies _ (by rfl) _ _ _ (by rfl) 0 244 i0 _ 2 24 Tryz.underlying181 hi0 hz0 hz1 hz2 rfl (by omega) (.slice ao ps.length cap) ps.length (flat ps) (by rfl) ((((hown.alloc _).alloc _)).drew)
                ⟨w1.heap.size + 1, 0, none⟩ 1 1 [.int .i64 (k : Int), .string (pad s)] (by rfl) (by rfl) (World.news_of_block (cs := #[.int .i64 (k : Int), .string (pad s)]) (t := 244) (fr := (0, 0)) (heap_two _ _ _)) (by simp [Value.oneCell'])
                (by omega) (by simp [maxLen]; omega) (by omega) (by omega) (w1.heap.size + 2) (by simp) ?_
               intro gg cap2 w2 hown1 hgrow hat hlt
               have cw : w2.cell? ⟨bl, 1, none⟩ = some (.slice ao ps.length cap) := (hgrow.cell_far _ (by simp; omega) (Ne.symm hl1.np)).trans ((hl1.alloc _).alloc _).drew.c1
               have zw : w2.frozen? ⟨bl, 1, none⟩ = false := (hgrow.frozen_far _ (by simp; omega) (Ne.symm hl1.np)).trans (((hl1.alloc _).alloc _).drew.fz 1))
            | (go_simp; go_at_call 227; refine (whole_any _ _ ?_).mono ?_; (· omega); rintro e w' ⟨rfl, o, rfl⟩)))
          all_goals
            go_wp2
            go_ret
            have hE := put_end (k := k) (s := pad s) (gg := gg) (cap := cap2) hl1 hown1 hgrow hat
            exact ⟨_, by rw [unhide HR]; rfl, by rw [unhide HR]; exact hE.1, (DStep.ofBelow hb).trans hE.2⟩

/-- (*Log).Drop, called. -/
theorem drop_any (w : World) (bl bd : Nat) (pv : Value) (ps : List (Nat × ByteArray)) (br : Bool) (hl : LAt w bl bd pv ps br) :
    Calls Tryz.prog 115 #[.pointer (some ⟨bl, 0, none⟩)] w fun e w' => e = .returned (.tuple #[]) ∧ LAt w' bl bd (.slice none 0 0) [] br ∧ DStep bl bl pv (.slice none 0 0) w w' := by
  have c1 := hl.c1
  have z1 := hl.fz 1
  go_enter Tryz.func115, Tryz.ntmps115
  go_wp2
  go_end0
  exact ⟨rfl, hl.setPuts _ [] (World.ownsRow_nil _ _ _ _) (by simp [Value.ownBlock]), rfl, rfl, rfl, by simp [World.setCell], fun k _ a _ _ => Below.heap_setCell _ _ _ _ a, fun g hg => by simp [Value.ownBlock] at hg⟩
end Go.Proofs.YtcbindgpbeaebaaGreatDoor

namespace Go.Proofs.YtcbindgpbeaebaaGreatDoor
open Go.RowKit Go.Deep
attribute [local go_sem ↓] Go.wp_at_zero Go.wp_at_succ

/-- wal.record, byte by byte. -/
def recOf (n : Nat) (ps : List (Nat × ByteArray)) : List UInt8 := UInt8.ofNat n :: ps.flatMap fun p => [UInt8.ofNat (p.1 / 256), UInt8.ofNat p.1]
def u8s (l : List UInt8) : List Value := l.map fun b => Value.int .u8 (b.toNat : Int)
theorem recOf_len (n : Nat) (ps : List (Nat × ByteArray)) : (recOf n ps).length = 1 + 2 * ps.length := by
  induction ps with
  | nil => rfl
  | cons p r ih => simp [recOf] at *; omega
theorem recOf_snoc (n : Nat) (ps : List (Nat × ByteArray)) (p : Nat × ByteArray) : recOf n (ps ++ [p]) = recOf n ps ++ [UInt8.ofNat (p.1 / 256), UInt8.ofNat p.1] := by simp [recOf]
def recB (ps : List (Nat × ByteArray)) : ByteArray := ⟨(recOf ps.length ps).toArray⟩

def rcells (n : Nat) (ps : List (Nat × ByteArray)) : List Value := .int .u8 (n : Int) :: ps.flatMap fun p => [.int .u8 ((p.1 : Int) / 256), .int .u8 ((p.1 : Int) % 256)]
theorem rcells_snoc (n : Nat) (ps : List (Nat × ByteArray)) (p : Nat × ByteArray) : rcells n (ps ++ [p]) = rcells n ps ++ [.int .u8 ((p.1 : Int) / 256), .int .u8 ((p.1 : Int) % 256)] := by simp [rcells]
theorem rcells_eq (n : Nat) (hn : n < 256) : ∀ (ps : List (Nat × ByteArray)), (∀ p ∈ ps, p.1 < 4096) → rcells n ps = u8s (recOf n ps) := by
  intro ps
  have h0 : u8s (recOf n ps) = .int .u8 (n : Int) :: u8s (ps.flatMap fun p => [UInt8.ofNat (p.1 / 256), UInt8.ofNat p.1]) := by
    simp only [recOf, u8s, List.map_cons]
    congr 2
    simp [UInt8.toNat_ofNat']; omega
  rw [h0, rcells]
  intro h
  congr 1
  induction ps with
  | nil => rfl
  | cons p r ih =>
    have hp := h p (by simp)
    have ih' := ih (by simp only [recOf, u8s, List.map_cons]; congr 2; simp; omega) fun q hq => h q (by simp [hq])
    rw [List.flatMap_cons, ih', List.flatMap_cons]
    simp only [u8s, List.map_append, List.map_cons, List.map_nil]
    congr 2
    · congr 1; simp; omega

set_option maxRecDepth 100000 in
set_option maxHeartbeats 3200000 in
theorem record_any (w : World) (qv : Value) (ps : List (Nat × ByteArray)) (hq : w.ownsRow 0 244 2 qv ps.length (flat ps)) (hl : ps.length ≤ 80) (hb4 : ∀ p ∈ ps, p.1 < 4096) :
    Calls Tryz.prog 210 #[qv] w fun e w' => e = .returned (.string (recB ps)) ∧ Below w.heap.size w w' := by
  obtain ⟨ao, cap, hqv⟩ := ownsRow_form hq
  subst hqv
  obtain ⟨i0, hi0, hz0, hz1, hz2⟩ := info_parts info_u8
  go_enter Tryz.func210, Tryz.ntmps210
  go_wp2_with fail
  go_loopw [3, 12] (fun v i wr => ∃ k : Nat, k ≤ ps.length ∧ i = .int .i64 k ∧ wr.ownsRow w.heap.size 5 1 v (1 + 2 * k) (rcells ps.length (ps.take k)) ∧ Below w.heap.size w wr) (fun _ i _ => ps.length - (intOf i).toNat)
  case atStart =>
    refine ⟨0, Nat.zero_le _, rfl, ?_, (Below.refl _ _).alloc (Nat.le_refl _) _⟩
    exact ⟨rfl, .inr ⟨w.heap.size, 1, #[.int .u8 (ps.length : Int)], rfl, Nat.le_refl _, heap_alloc_new w _, by omega, by simp [maxLen], rfl, rfl⟩⟩
  case round =>
    obtain ⟨k, hk, rfl, hown, hb⟩ := hrel
    by_cases hlt : k < ps.length
    · obtain ⟨p, hp⟩ : ∃ p, ps[k]? = some p := ⟨ps[k], List.getElem?_eq_getElem hlt⟩
      obtain ⟨g, capx, he, cA, cB, lg⟩ := row_at hq k p hp
      have hao : ao = some ⟨g, 0, none⟩ := by
        simp only [Value.slice.injEq] at he
        exact he.1
      subst hao
      clear he
      have cA' := (hb.cell (p := ⟨g, k * 2, none⟩) lg).trans cA
      have cB' := (hb.cell (p := ⟨g, k * 2 + 1, none⟩) lg).trans cB
      have hp4 := hb4 p (List.mem_of_getElem? hp)
      have HP := hide hp
      clear hp
      have i0' : (0 : Int) ≤ (k : Int) := Int.natCast_nonneg _
      have i1 : (k : Int) < (ps.length : Int) := by omega
      have hsz := hb.size
      go_wp2_with (at_builtin; refine wpList_append_lies _ (by rfl) _ _ _ (by rfl) w.heap.size 5 i0 _ 1 1 Tryz.underlying207 hi0 hz0 hz1 hz2 rfl (by omega) _ (1 + 2 * k) (rcells ps.length (ps.take k)) (by rfl) ((hown.alloc _).alloc _) ⟨wr.heap.size + 1, 0, none⟩ 2 2 [.int .u8 ((p.1 : Int) / 256), .int .u8 ((p.1 : Int) % 256)] (by rfl) (by rfl) (World.news_of_block (cs := #[.int .u8 ((p.1 : Int) / 256), .int .u8 ((p.1 : Int) % 256)]) (t := 5) (fr := (0, 0)) (heap_two' _ _ _)) (by simp [Value.oneCell']) (by omega) (by simp [maxLen]; omega) (by omega) (by simp; omega) (wr.heap.size + 2) (by simp) ?_; intro gg cap2 w2 hown1 hgrow hat hlt2)
      go_roundw
      case rel =>
        refine ⟨k + 1, by omega, by go_num, ?_, ?_⟩
        · rw [show ps.take (k + 1) = ps.take k ++ [p] by rw [List.take_add_one, unhide HP]; rfl, rcells_snoc, show 1 + 2 * (k + 1) = 1 + 2 * k + 2 by omega]
          exact hown1
        · exact ((hb.alloc hsz _).alloc (by simp; omega) _).grown hgrow (by simp; omega) (fun q hq' => (hown.lt q hq').1)
      case measure => simp [intOf]; omega
    · have hk' : k = ps.length := by omega
      subst hk'
      rw [List.take_length, rcells_eq _ (by omega) _ hb4] at hown
      obtain ⟨g, cap2, hv, _, hg⟩ := hown.form (by omega)
      subst hv
      have hcv : (convert 207 9 (.slice (some ⟨g, 0, none⟩) (1 + 2 * ps.length) cap2)).run Tryz.prog wr = .ok (.string (recB ps)) wr := by
        have h := run_convert_bytes_back (P := Tryz.prog) wr 207 9 5 ⟨g, 0, none⟩ cap2 (recOf ps.length ps) Tryz.underlying207 Tryz.underlying5 Tryz.underlying9 (fun j hj => by
          exact hown.cells (g := g) rfl j _ (by rw [u8s, List.getElem?_map, List.getElem?_eq_getElem hj]; rfl))
        rw [recOf_len] at h
        exact h
      go_wp2_with fail
      go_ret
      exact ⟨rfl, hb⟩
end Go.Proofs.YtcbindgpbeaebaaGreatDoor

namespace Go.Proofs.YtcbindgpbeaebaaGreatDoor
open Go.RowKit Go.Deep
attribute [local go_sem ↓] Go.wp_at_zero Go.wp_at_succ


theorem Dk.changes_ok {d : Dk} (h : d.changes.1 = true) (ok : d.Ok) : d.changes.2.Ok ∧ d.changes.2.failed = d.failed := by
  obtain ⟨w0, w1, l0, l1, f0, f1, n, lt⟩ := ok
  unfold Dk.changes at h ⊢
  by_cases hl : d.life = 0
  · simp [hl] at h
  · by_cases hw : d.wait = 0
    · simp [hl, hw] at h
    · simp only [if_neg hl, if_neg hw]
      exact ⟨⟨by simp only; split <;> omega, by simp only; split <;> omega, by simp only; split <;> omega, by simp only; split <;> omega, f0, f1, n, lt⟩, trivial⟩
theorem Dk.write_ok {d : Dk} {a : Nat} {s : ByteArray} (h : (d.write a s).1 = true) (ok : d.Ok) (ha : a < d.safe.length) : (d.write a s).2.Ok ∧ (d.write a s).2.safe = d.safe ∧ (d.write a s).2.late = d.late ++ [(a, pad s)] := by
  have hc : d.changes.1 = true := by
    cases hc : d.changes.1
    · simp [Dk.write, hc] at h
    · rfl
  obtain ⟨⟨w0, w1, l0, l1, f0, f1, n, lt⟩, _⟩ := Dk.changes_ok hc ok
  simp only [Dk.write, hc, if_true]
  refine ⟨⟨w0, w1, l0, l1, f0, f1, n, ?_⟩, d.changes_safe, trivial⟩
  intro p hp
  simp only at hp ⊢
  rw [d.changes_safe]
  rcases List.mem_append.1 hp with hp | hp
  · exact ok.lt p hp
  · simp at hp; subst hp; exact ha
theorem Dk.flush_ok {d : Dk} (h : d.flush.1 = true) (ok : d.Ok) : d.flush.2.Ok ∧ d.flush.2.safe = lay d.safe d.late ∧ d.flush.2.late = [] := by
  have hc : d.changes.1 = true := by
    cases hc : d.changes.1
    · simp [Dk.flush, hc] at h
    · rfl
  obtain ⟨⟨w0, w1, l0, l1, f0, f1, n, lt⟩, _⟩ := Dk.changes_ok hc ok
  simp only [Dk.flush, hc, if_true]
  refine ⟨⟨w0, w1, l0, l1, f0, f1, ?_, fun p hp => by simp at hp⟩, trivial, trivial⟩
  simp only
  rw [lay_len]
  exact ok.n

/-- (*Log).setRecord -/
def Dk.setRec (d : Dk) (ps : List (Nat × ByteArray)) : Bool × Dk := if (d.write 0 (recB ps)).1 then (d.write 0 (recB ps)).2.flush else (false, (d.write 0 (recB ps)).2)

theorem recB_size (ps : List (Nat × ByteArray)) (h : ps.length ≤ 80) : (recB ps).size ≤ 256 := by
  show (recOf ps.length ps).toArray.size ≤ _
  rw [List.size_toArray, recOf_len]; omega
theorem World.heap_size_drew (w : World) : w.drew.heap.size = w.heap.size := rfl
theorem Off.drew {w : World} {bd bs : Nat} {lv : Value} {k : Nat} (h : Off w bd bs lv k) : Off w.drew bd bs lv k := h
theorem Off.cell {w w' : World} {bd bs : Nat} {lv lv' : Value} {k : Nat} (h : Off w bd bs lv k) (st : DStep bd bs lv lv' w w') (i : Nat) : w'.cell? ⟨k, i, none⟩ = w.cell? ⟨k, i, none⟩ := World.cell?_of_block (h.step st).2

set_option maxRecDepth 100000 in
set_option maxHeartbeats 3200000 in
theorem setRecord_any (w : World) (bl bd bs : Nat) (lv qv : Value) (d : Dk) (ps : List (Nat × ByteArray)) (hp : w.cell? ⟨bl, 0, none⟩ = some (.pointer (some ⟨bd, 0, none⟩))) (off : Off w bd bs lv bl) (h : DAt w bd bs lv d) (hq : w.ownsRow 0 244 2 qv ps.length (flat ps))
    (ok : d.Ok) (hs : 0 < d.safe.length) (hll : d.late.length ≤ 900000) (hl : ps.length ≤ 80) (hb4 : ∀ p ∈ ps, p.1 < 4096) :
    Calls Tryz.prog 186 #[.pointer (some ⟨bl, 0, none⟩), qv] w fun e w' => ∃ lv', e = .returned (.bool (d.setRec ps).1) ∧ DAt w' bd bs lv' (d.setRec ps).2 ∧ DStep bd bs lv lv' w w' := by
  have hrs := recB_size ps hl
  cases hw : (d.write 0 (recB ps)).1 with
  | false =>
    have HR : Hid (d.setRec ps = (false, (d.write 0 (recB ps)).2)) := by show d.setRec ps = _; simp [Dk.setRec, hw]
    have HW := hide hw
    clear hw
    go_enter Tryz.func186, Tryz.ntmps186
    go_wp2_with fail
    first | go_region_with ((first
      | (go_at_call 210; refine (record_any _ _ ps ?_ hl hb4).mono ?_; (· exact hq.drew); rintro e w1 ⟨rfl, hb1⟩
         have h1 := h.drew.below hb1
         have p1 : w1.cell? ⟨bl, 0, none⟩ = some (.pointer (some ⟨bd, 0, none⟩)) := (hb1.cell (p := ⟨bl, 0, none⟩) off.1).trans hp)
      | (go_at_call 185; refine (write_any _ _ _ _ _ 0 (recB ps) h1 ok ?_ ?_ hrs ?_).mono ?_; (· omega); (· omega); (· omega); rintro e w2 ⟨lv2, rfl, h2, st2⟩; simp only [Int.toNat_zero] at h2 st2 ⊢; rw [unhide HW]))) | fail
    all_goals
      go_wp2
      go_ret
      exact ⟨lv2, by rw [unhide HR]; rfl, by rw [unhide HR]; exact h2, ((DStep.refl _ _ _ _).drew.trans (DStep.ofBelow hb1)).trans st2⟩
  | true =>
    have HR : Hid (d.setRec ps = (d.write 0 (recB ps)).2.flush) := by show d.setRec ps = _; simp [Dk.setRec, hw]
    obtain ⟨ok2, hs2, hl2⟩ := Dk.write_ok hw ok hs
    have HL := hide hl2
    have HW := hide hw
    clear hw hl2 hs2
    go_enter Tryz.func186, Tryz.ntmps186
    go_wp2_with fail
    first | go_region_with ((first
      | (go_at_call 210; refine (record_any _ _ ps ?_ hl hb4).mono ?_; (· exact hq.drew); rintro e w1 ⟨rfl, hb1⟩
         have h1 := h.drew.below hb1
         have p1 : w1.cell? ⟨bl, 0, none⟩ = some (.pointer (some ⟨bd, 0, none⟩)) := (hb1.cell (p := ⟨bl, 0, none⟩) off.1).trans hp)
      | (go_at_call 185; refine (write_any _ _ _ _ _ 0 (recB ps) h1 ok ?_ ?_ hrs ?_).mono ?_; (· omega); (· omega); (· omega); rintro e w2 ⟨lv2, rfl, h2, st2⟩; simp only [Int.toNat_zero] at h2 st2 ⊢; rw [unhide HW]
         have st12 := ((DStep.refl bd bs lv w).drew.trans (DStep.ofBelow hb1)).trans st2
         have p2 : w2.cell? ⟨bl, 0, none⟩ = some (.pointer (some ⟨bd, 0, none⟩)) := (off.cell st12 0).trans hp)
      | (go_at_call 149; refine (flush_any _ _ _ _ _ h2 ok2 ?_).mono ?_; (· rw [unhide HL]; simp; omega); rintro e w3 ⟨lv3, rfl, h3, st3⟩))) | fail
    all_goals
      go_wp2
      go_ret
      exact ⟨lv3, by rw [unhide HR]; rfl, by rw [unhide HR]; exact h3, st12.trans st3⟩
end Go.Proofs.YtcbindgpbeaebaaGreatDoor
