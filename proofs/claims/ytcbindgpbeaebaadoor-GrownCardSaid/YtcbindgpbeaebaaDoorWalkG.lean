import Derived.Test.YtcbindgpbeaebaaDoorLog
namespace Go.Proofs.YtcbindgpbeaebaaDoor
open Go.RowKit Go.Deep
attribute [local go_sem ↓] Go.wp_at_zero Go.wp_at_succ

theorem info_put : (Tryd.prog.info? 159).map (fun i => (i.zero, i.size, i.bytes)) = some (some (.agg #[.int .i64 0, .string ByteArray.empty]), 2, 24) := by kernel_rfl

/-- (*Log).Put -/
def putL (n : Nat) (ps : List (Nat × ByteArray)) (a : Int) (s : ByteArray) : Int × List (Nat × ByteArray) :=
  if hasB n a = false ∨ 256 < s.size then (1, ps)
  else if 0 ≤ idx ps a then (0, ps.set (idx ps a).toNat (a.toNat, pad s))
  else if ps.length = 80 then (8, ps)
  else (0, ps ++ [(a.toNat, pad s)])

theorem idx_at : ∀ (l : List (Nat × ByteArray)) (a : Int), 0 ≤ idx l a → ∃ p, l[(idx l a).toNat]? = some p ∧ (p.1 : Int) = a
  | [], a, h => by simp [idx] at h
  | q :: r, a, h => by
    by_cases e : (q.1 : Int) = a
    · exact ⟨q, by simp [idx, e], e⟩
    · by_cases hn : idx r a < 0
      · simp [idx, e, hn] at h
      · obtain ⟨p, hp, he⟩ := idx_at r a (by omega)
        refine ⟨p, ?_, he⟩
        rw [idx, if_neg e, if_neg hn, show (idx r a + 1).toNat = (idx r a).toNat + 1 by omega]
        simpa using hp

set_option maxRecDepth 100000 in
set_option maxHeartbeats 3200000 in
theorem put_any (w : World) (bl bd bs : Nat) (pv lv : Value) (ps : List (Nat × ByteArray)) (br : Bool) (d : Dk) (a : Int) (s : ByteArray) (hl : LAt w bl bd pv ps br) (h : DAt w bd bs lv d) (hn : d.safe.length ≤ 4096) (hp : ps.length ≤ 80) :
    Calls Tryd.prog 120 #[.pointer (some ⟨bl, 0, none⟩), .int .i64 a, .string s] w fun e w' => ∃ pv', e = .returned (.int .i64 (putL d.safe.length ps a s).1) ∧ LAt w' bl bd pv' (putL d.safe.length ps a s).2 br ∧ DStep bl bl pv pv' w w' := by
  have c0 := hl.c0
  have c1 := hl.c1
  cases hh : hasB d.safe.length a with
  | false =>
    have HR : Hid (putL d.safe.length ps a s = (1, ps)) := by show putL d.safe.length ps a s = _; simp [putL, hh]
    have HH := hide hh
    clear hh
    go_enter Tryd.func120, Tryd.ntmps120
    go_wp2_with fail
    refine (has_any _ _ _ _ _ _ _ c0 h hn).mono ?_
    rintro e w1 ⟨rfl, rfl⟩
    rw [unhide HH]
    go_wp2_with fail
    go_ret
    exact ⟨pv, by rw [unhide HR]; rfl, by rw [unhide HR]; exact hl, DStep.refl _ _ _ _⟩
  | true =>
    by_cases hs : 256 < s.size
    · have HR : Hid (putL d.safe.length ps a s = (1, ps)) := by show putL d.safe.length ps a s = _; simp [putL, hs]
      have hs' : (256 : Int) < (s.size : Int) := by omega
      have HH := hide hh
      clear hh
      go_enter Tryd.func120, Tryd.ntmps120
      go_wp2_with fail
      refine (has_any _ _ _ _ _ _ _ c0 h hn).mono ?_
      rintro e w1 ⟨rfl, rfl⟩
      rw [unhide HH]
      go_wp2_with fail
      go_ret
      exact ⟨pv, by rw [unhide HR]; rfl, by rw [unhide HR]; exact hl, DStep.refl _ _ _ _⟩
    · have hs' : ¬ (256 : Int) < (s.size : Int) := by omega
      have ha : 0 ≤ a := by simp [hasB] at hh; omega
      obtain ⟨k, rfl⟩ := Int.eq_ofNat_of_zero_le ha
      have HH := hide hh
      clear hh
      by_cases hi : 0 ≤ idx ps (k : Int)
      · obtain ⟨p, hpi, hpe⟩ := idx_at ps k hi
        have hpk : p.1 = k := by omega
        have HR : Hid (putL d.safe.length ps k s = (0, ps.set (idx ps k).toNat (p.1, pad s))) := by
          show putL d.safe.length ps k s = _
          simp [putL, unhide HH, hs, hi, hpk]
        obtain ⟨g, cap, hpv, cA, cB, lg⟩ := row_at hl.puts _ p hpi
        subst hpv
        obtain ⟨i, hii⟩ := Int.eq_ofNat_of_zero_le hi
        have hlt : i < ps.length := by
          rw [hii, Int.toNat_natCast] at hpi
          exact (List.getElem?_eq_some_iff.1 hpi).1
        rw [hii, Int.toNat_natCast] at hpi
        have HI := hide hii
        have HP := hide hpi
        clear hpi hii hpe hpk hi cA cB
        go_enter Tryd.func120, Tryd.ntmps120
        go_wp2_with fail
        refine (has_any _ _ _ _ _ _ _ c0 h hn).mono ?_
        rintro e w1 ⟨rfl, rfl⟩
        rw [unhide HH]
        go_wp2_with fail
        refine (find_any _ _ _ ps _ c1 hl.puts (by omega)).mono ?_
        rintro e w1 ⟨rfl, hb⟩
        rw [unhide HI]
        have hl1 := hl.below hb
        have d1 := hl1.c1
        have nn := World.new_ne w1 _ d1
        obtain ⟨_, _, he, _, cB1, lg1⟩ := row_at hl1.puts i p (unhide HP)
        simp only [Value.slice.injEq, Option.some.injEq, Addr.mk.injEq, and_true] at he
        obtain ⟨rfl, _, rfl⟩ := he
        have zB1 : ∀ o, (w1.alloc o).frozen? ⟨g, i * 2 + 1, none⟩ = false := fun o => by
          have hz := (hl1.alloc o).puts
          rcases hz.2 with ⟨hv, _⟩ | ⟨g', cap', cur, hv, _, hg, _⟩
          · cases hv
          · simp only [Value.slice.injEq, Option.some.injEq, Addr.mk.injEq, and_true] at hv
            obtain ⟨rfl, _, rfl⟩ := hv
            exact frozen_of_row _ _ _ _ _ hg
        have cB2 : ∀ o, (w1.alloc o).cell? ⟨g, i * 2 + 1, none⟩ = some (.string p.2) := fun o => (World.cell?_alloc_past _ _ _ lg1).trans cB1
        have i0 : (0 : Int) ≤ (i : Int) := Int.natCast_nonneg _
        have i1 : (i : Int) < (ps.length : Int) := by omega
        have d2 : ∀ o, (w1.alloc o).cell? ⟨bl, 1, none⟩ = some (.slice (some ⟨g, 0, none⟩) ps.length cap) := fun o => (hl1.alloc o).c1
        have hs2 : s.size ≤ 256 := by omega
        go_wp2_with fail
        go_region_law ((go_simp; go_at_call 134; refine (whole_any _ _ ?_).mono ?_; (· omega); rintro e w' ⟨rfl, o, rfl⟩))
        all_goals
          go_wp2
          go_ret
          have hE := put_again (pad s) hl1 (unhide HP)
          refine ⟨.slice (some ⟨g, 0, none⟩) ps.length cap, by rw [unhide HR]; rfl, ?_, (DStep.ofBelow hb).trans ((hE.2.alloc o).drew)⟩
          rw [unhide HR, unhide HI, Int.toNat_natCast]
          exact (hE.1.alloc o).drew
      · have hif : idx ps (k : Int) < 0 := by omega
        by_cases hfull : ps.length = 80
        · have HR : Hid (putL d.safe.length ps k s = (8, ps)) := by
            show putL d.safe.length ps k s = _
            simp [putL, unhide HH, hs, hi, hfull]
          have hfb : ((ps.length : Int) == 80) = true := by simp [hfull]
          obtain ⟨ao, cap, hpv⟩ := ownsRow_form hl.puts
          subst hpv
          clear hfull
          go_enter Tryd.func120, Tryd.ntmps120
          go_wp2_with fail
          refine (has_any _ _ _ _ _ _ _ c0 h hn).mono ?_
          rintro e w1 ⟨rfl, rfl⟩
          rw [unhide HH]
          go_wp2_with fail
          refine (find_any _ _ _ ps _ c1 hl.puts (by omega)).mono ?_
          rintro e w1 ⟨rfl, hb⟩
          have hl1 := hl.below hb
          have d1 := hl1.c1
          go_wp2_with fail
          go_ret
          exact ⟨_, by rw [unhide HR]; rfl, by rw [unhide HR]; exact hl1, DStep.ofBelow hb⟩
        · have HR : Hid (putL d.safe.length ps k s = (0, ps ++ [(k, pad s)])) := by
            show putL d.safe.length ps k s = _
            simp [putL, unhide HH, hs, hi, hfull]
          have hfb : ((ps.length : Int) == 80) = false := by simp; omega
          obtain ⟨ao, cap, hpv⟩ := ownsRow_form hl.puts
          subst hpv
          clear hfull
          obtain ⟨i0, hi0, hz0, hz1, hz2⟩ := info_parts info_put
          go_enter Tryd.func120, Tryd.ntmps120
          go_wp2_with fail
          refine (has_any _ _ _ _ _ _ _ c0 h hn).mono ?_
          rintro e w1 ⟨rfl, rfl⟩
          rw [unhide HH]
          go_wp2_with fail
          refine (find_any _ _ _ ps _ c1 hl.puts (by omega)).mono ?_
          rintro e w1 ⟨rfl, hb⟩
          have hl1 := hl.below hb
          have d1 := hl1.c1
          have nn := World.new_ne w1 _ d1
          have hown := hl1.puts
          have lt1 := hl1.lt
          have hs2 : s.size ≤ 256 := by omega
          go_wp2_with fail
          go_region_law ((first
            | (refine step_append_lies _ (by rfl) _ _ _ (by rfl) 0 159 i0 _ 2 24 Tryd.underlying111 hi0 hz0 hz1 hz2 rfl (by omega) (.slice ao ps.length cap) ps.length (flat ps) (by rfl) ((((hown.alloc _).alloc _)).drew)
                ⟨w1.heap.size + 1, 0, none⟩ 1 1 [.int .i64 (k : Int), .string (pad s)] (by rfl) (by rfl) (World.news_of_block (cs := #[.int .i64 (k : Int), .string (pad s)]) (t := 159) (fr := (0, 0)) (heap_two _ _ _)) (by simp [Value.oneCell'])
                (by omega) (by simp [maxLen]; omega) (by omega) (by omega) (w1.heap.size + 2) (by simp) ?_
               intro gg cap2 w2 hown1 hgrow hat hlt
               have cw : w2.cell? ⟨bl, 1, none⟩ = some (.slice ao ps.length cap) := (hgrow.cell_far _ (by simp; omega) (Ne.symm hl1.np)).trans ((hl1.alloc _).alloc _).drew.c1
               have zw : w2.frozen? ⟨bl, 1, none⟩ = false := (hgrow.frozen_far _ (by simp; omega) (Ne.symm hl1.np)).trans (((hl1.alloc _).alloc _).drew.fz 1))
            | (go_simp; go_at_call 134; refine (whole_any _ _ ?_).mono ?_; (· omega); rintro e w' ⟨rfl, o, rfl⟩)))
          all_goals
            go_wp2
            go_ret
            have hE := put_end (k := k) (s := pad s) (gg := gg) (cap := cap2) hl1 hown1 hgrow hat
            exact ⟨_, by rw [unhide HR]; rfl, by rw [unhide HR]; exact hE.1, (DStep.ofBelow hb).trans hE.2⟩

/-- (*Log).Drop, called. -/
theorem drop_any (w : World) (bl bd : Nat) (pv : Value) (ps : List (Nat × ByteArray)) (br : Bool) (hl : LAt w bl bd pv ps br) :
    Calls Tryd.prog 55 #[.pointer (some ⟨bl, 0, none⟩)] w fun e w' => e = .returned (.tuple #[]) ∧ LAt w' bl bd (.slice none 0 0) [] br ∧ DStep bl bl pv (.slice none 0 0) w w' := by
  have c1 := hl.c1
  have z1 := hl.fz 1
  go_enter Tryd.func55, Tryd.ntmps55
  go_wp2
  go_end0
  exact ⟨rfl, hl.setPuts _ [] (World.ownsRow_nil _ _ _ _) (by simp [Value.ownBlock]), rfl, rfl, rfl, by simp [World.setCell], fun k _ a _ _ => Below.heap_setCell _ _ _ _ a, fun g hg => by simp [Value.ownBlock] at hg⟩
end Go.Proofs.YtcbindgpbeaebaaDoor
