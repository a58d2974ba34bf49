import Derived.Test.YtcbindgpbeaebaaDoorWalkN
namespace Go.Proofs.YtcbindgpbeaebaaDoor
open Go.RowKit Go.Deep
attribute [local go_sem ↓] Go.wp_at_zero Go.wp_at_succ

/-- (*Log).Get -/
def getL (d : Dk) (ps : List (Nat × ByteArray)) (br : Bool) (a : Int) : ByteArray × Int :=
  if hasB d.safe.length a = false then (⟨#[]⟩, 1)
  else if d.life = 0 ∨ br = true then (⟨#[]⟩, 9)
  else if 0 ≤ idx ps a then (((ps[(idx ps a).toNat]?).getD (0, ⟨#[]⟩)).2, 0)
  else (d.read (90 + a.toNat), 0)

set_option maxRecDepth 100000 in
set_option maxHeartbeats 3200000 in
theorem get_any (w : World) (bl bd bs : Nat) (pv lv : Value) (ps : List (Nat × ByteArray)) (br : Bool) (d : Dk) (a : Int) (hl : LAt w bl bd pv ps br) (h : DAt w bd bs lv d) (hn : d.safe.length ≤ 4096) (hll : d.late.length ≤ 1000000) (hp : ps.length ≤ 80) :
    Calls Tryd.prog 108 #[.pointer (some ⟨bl, 0, none⟩), .int .i64 a] w fun e w' => e = .returned (.tuple #[.string (getL d ps br a).1, .int .i64 (getL d ps br a).2]) ∧ Below w.heap.size w w' := by
  have c0 := hl.c0
  have c2 := hl.c2
  cases hh : hasB d.safe.length a with
  | false =>
    have HR : Hid (getL d ps br a = (⟨#[]⟩, 1)) := by show getL d ps br a = _; simp [getL, hh]
    have HH := hide hh
    clear hh
    go_enter Tryd.func108, Tryd.ntmps108
    go_wp2_with fail
    refine (has_any _ _ _ _ _ _ _ c0 h hn).mono ?_
    rintro e w1 ⟨rfl, rfl⟩
    rw [unhide HH]
    go_wp2_with fail
    go_ret2
    exact ⟨by rw [unhide HR]; rfl, Below.refl _ _⟩
  | true =>
    have ha : 0 ≤ a ∧ a < (d.safe.length : Int) - 90 := by simp [hasB] at hh; omega
    obtain ⟨ha0, ha1⟩ := ha
    obtain ⟨k, rfl⟩ := Int.eq_ofNat_of_zero_le ha0
    have HH := hide hh
    by_cases hd : d.life = 0
    · have HR : Hid (getL d ps br k = (⟨#[]⟩, 9)) := by show getL d ps br k = _; simp [getL, hh, hd]
      have HD := hide hd
      clear hh hd
      go_enter Tryd.func108, Tryd.ntmps108
      go_wp2_with fail
      refine (has_any _ _ _ _ _ _ _ c0 h hn).mono ?_
      rintro e w1 ⟨rfl, rfl⟩
      rw [unhide HH]
      go_wp2_with fail
      refine (read_dead _ bd bs lv d (90 + (k : Int)) h (by omega) (by omega) (unhide HD)).mono ?_
      rintro e w1 ⟨rfl, rfl⟩
      go_wp2_with fail
      go_ret2
      exact ⟨by rw [unhide HR]; rfl, Below.refl _ _⟩
    · cases br with
      | true =>
        have HR : Hid (getL d ps true k = (⟨#[]⟩, 9)) := by show getL d ps true k = _; simp [getL, hh]
        have HD := hide hd
        clear hh hd
        go_enter Tryd.func108, Tryd.ntmps108
        go_wp2_with fail
        refine (has_any _ _ _ _ _ _ _ c0 h hn).mono ?_
        rintro e w1 ⟨rfl, hw⟩
        have hw := hw.symm
        subst hw
        rw [unhide HH]
        go_wp2_with fail
        refine (read_live _ bd bs lv d (90 + (k : Int)) h hn (by omega) (by omega) (unhide HD) hll).mono ?_
        rintro e w1 ⟨rfl, hw1⟩
        have hb1 : Below w.heap.size w w1 := by
          rcases hw1 with rfl | ⟨o, rfl⟩
          · exact Below.refl _ _
          · exact (Below.refl _ _).alloc (Nat.le_refl _) o
        clear hw1
        have c21 := (hl.below hb1).c2
        go_wp2_with fail
        go_ret2
        exact ⟨by rw [unhide HR]; rfl, hb1⟩
      | false =>
        have hg : getL d ps false k = if 0 ≤ idx ps k then (((ps[(idx ps k).toNat]?).getD (0, ⟨#[]⟩)).2, 0) else (d.read (90 + k), 0) := by
          simp [getL, hh, hd]
        have HD := hide hd
        have HG := hide hg
        clear hh hd hg
        go_enter Tryd.func108, Tryd.ntmps108
        go_wp2_with fail
        refine (has_any _ _ _ _ _ _ _ c0 h hn).mono ?_
        rintro e w1 ⟨rfl, hw⟩
        have hw := hw.symm
        subst hw
        rw [unhide HH]
        go_wp2_with fail
        refine (read_live _ bd bs lv d (90 + (k : Int)) h hn (by omega) (by omega) (unhide HD) hll).mono ?_
        rintro e w1 ⟨rfl, hw1⟩
        rw [show ((90 : Int) + (k : Int)).toNat = 90 + k by omega]
        have hb1 : Below w.heap.size w w1 := by
          rcases hw1 with rfl | ⟨o, rfl⟩
          · exact Below.refl _ _
          · exact (Below.refl _ _).alloc (Nat.le_refl _) o
        clear hw1
        have l1 := hl.below hb1
        have c21 := l1.c2
        go_wp2_with fail
        refine (find_any _ bl pv ps _ l1.c1 l1.puts (by omega)).mono ?_
        rintro e w2 ⟨rfl, hb2⟩
        have hb02 : Below w.heap.size w w2 := hb1.trans (hb2.mono hb1.size)
        have l2 := hl.below hb02
        by_cases hi : 0 ≤ idx ps (k : Int)
        · obtain ⟨p, hpi, hpe⟩ := idx_at ps k hi
          have hg := unhide HG
          rw [if_pos hi, hpi] at hg
          have HR := hide hg
          obtain ⟨g, cap, hpv, _, cB, lg⟩ := row_at l2.puts _ p hpi
          subst hpv
          obtain ⟨i, hii⟩ := Int.eq_ofNat_of_zero_le hi
          have hlt : i < ps.length := by
            rw [hii, Int.toNat_natCast] at hpi
            exact (List.getElem?_eq_some_iff.1 hpi).1
          rw [hii, Int.toNat_natCast] at cB
          rw [hii]
          have c12 := l2.c1
          clear hg hii hi hpi hpe HG
          have i0 : (0 : Int) ≤ (i : Int) := Int.natCast_nonneg _
          have i1 : (i : Int) < (ps.length : Int) := by omega
          go_wp2_with fail
          go_ret2
          exact ⟨by rw [unhide HR]; rfl, hb02⟩
        · have hg := unhide HG
          rw [if_neg hi] at hg
          have HR := hide hg
          have hif : idx ps (k : Int) < 0 := by omega
          clear hg hi HG
          go_wp2_with fail
          go_ret2
          exact ⟨by rw [unhide HR]; rfl, hb02⟩

/-- (*Log).Drop, deferred. -/
theorem drop_deferred (u : FrameMode) (w : World) (bl bd : Nat) (pv : Value) (ps : List (Nat × ByteArray)) (br : Bool) (hl : LAt w bl bd pv ps br) :
    CallsD Tryd.prog 55 #[.pointer (some ⟨bl, 0, none⟩)] u w fun e u' w' => u' = u ∧ (e = .returned (.tuple #[]) ∧ LAt w' bl bd (.slice none 0 0) [] br ∧ DStep bl bl pv (.slice none 0 0) w w') := by
  have c1 := hl.c1
  have z1 := hl.fz 1
  go_enter_d Tryd.func55, Tryd.ntmps55
  go_wp2
  go_end0
  exact ⟨rfl, hl.setPuts _ [] (World.ownsRow_nil _ _ _ _) (by simp [Value.ownBlock]), rfl, rfl, rfl, by simp [World.setCell], fun k _ a _ _ => Below.heap_setCell _ _ _ _ a, fun g hg => by simp [Value.ownBlock] at hg⟩
end Go.Proofs.YtcbindgpbeaebaaDoor
