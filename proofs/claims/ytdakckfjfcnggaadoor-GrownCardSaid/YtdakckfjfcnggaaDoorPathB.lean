import Derived.Test.YtdakckfjfcnggaaDoorPathA
namespace Go.Proofs.YtdakckfjfcnggaaDoor
open Go.RowKit Go.Deep

/-- Where the last '/' of the first bytes stands, or -1. -/
def lastTo (s : ByteArray) : Nat → Int
  | 0 => -1
  | k + 1 => if s.toList[k]? = some 47 then (k : Int) else lastTo s k
theorem lastTo_range (s : ByteArray) : ∀ k, -1 ≤ lastTo s k ∧ lastTo s k < (k : Int)
  | 0 => by simp [lastTo]
  | k + 1 => by
    have := lastTo_range s k
    unfold lastTo
    split <;> omega

set_option maxRecDepth 100000 in
set_option maxHeartbeats 3200000 in
theorem baLast_any (w : World) (s : ByteArray) (hs : s.size ≤ 4611686018427387904) : Calls Tryd.prog 108 #[.string s, .int .u8 47] w fun e w' => e = .returned (.int .i64 (lastTo s s.size)) ∧ w' = w := by
  go_enter Tryd.func108, Tryd.ntmps108
  go_wp2_with fail
  go_loopw [5] (fun i wr => wr = w ∧ ∃ k : Nat, k ≤ s.size ∧ i = .int .i64 ((k : Int) - 1) ∧ lastTo s s.size = lastTo s k) (fun i _ => (intOf i + 1).toNat)
  case atStart => exact ⟨rfl, s.size, Nat.le_refl _, rfl, rfl⟩
  case round =>
    obtain ⟨rfl, k, hk, rfl, hL⟩ := hrel
    have HL := hide hL
    clear hL
    by_cases h0 : k = 0
    · subst h0
      go_wp2_with fail
      go_ret
      exact ⟨by rw [unhide HL]; rfl, rfl⟩
    · obtain ⟨j, rfl⟩ : ∃ j, k = j + 1 := ⟨k - 1, by omega⟩
      have hat := toList_at s j (by omega)
      have e1 : ((j + 1 : Nat) : Int) - 1 = (j : Int) := by omega
      rw [e1]
      have i0 : (0 : Int) ≤ (j : Int) := Int.natCast_nonneg _
      have i1 : (j : Int) < (s.size : Int) := by omega
      have hU : lastTo s (j + 1) = if s.toList[j]? = some 47 then (j : Int) else lastTo s j := by rw [lastTo]
      by_cases hb : s[j] = 47
      · have hb' : ((s[j].toNat : Int) == 47) = true := by simp [hb]
        have HU := hide (hU.trans (if_pos (by rw [hat, hb])))
        clear hU hat hb
        go_wp2_with fail
        go_ret
        exact ⟨by rw [unhide HL, unhide HU]; rfl, rfl⟩
      · have hb' : ((s[j].toNat : Int) == 47) = false := by
          simp
          intro h
          exact hb (UInt8.toNat_inj.1 (by simpa using (by omega : s[j].toNat = 47)))
        have HU := hide (hU.trans (if_neg (by rw [hat]; simpa using hb)))
        clear hU hat hb
        go_wp2_with fail
        go_roundw
        case rel => exact ⟨by trivial, j, by omega, by go_num, by rw [unhide HL, unhide HU]⟩
        case measure => first | (simp [intOf]; done) | (simp [intOf]; omega)

/-- The parent of a path. -/
def parentB (s : ByteArray) : ByteArray := s.extract 0 (lastTo s s.size).toNat
theorem Parent_any (w : World) (s : ByteArray) (hs : s.size ≤ 4611686018427387904) : Calls Tryd.prog 65 #[.string s] w fun e w' => e = .returned (.string (parentB s)) ∧ w' = w := by
  have hl : Calls Tryd.prog 87 #[.string s, .int .u8 47] w fun e w' => e = .returned (.int .i64 (lastTo s s.size)) ∧ w' = w := by
    go_enter Tryd.func87, Tryd.ntmps87
    go_wp2_with fail
    refine (baLast_any w s hs).mono ?_
    rintro e w1 ⟨rfl, rfl⟩
    go_wp2_with fail
    go_ret
    exact ⟨rfl, rfl⟩
  have hr := lastTo_range s s.size
  have hP : parentB s = s.extract 0 (lastTo s s.size).toNat := rfl
  obtain ⟨L, hL⟩ : ∃ L, L = lastTo s s.size := ⟨_, rfl⟩
  rw [← hL] at hl hr hP
  rw [hP]
  clear hL hP
  by_cases h0 : L < 0
  · have e1 : L = -1 := by omega
    subst e1
    go_enter Tryd.func65, Tryd.ntmps65
    go_wp2_with fail
    refine hl.mono ?_
    rintro e w1 ⟨rfl, rfl⟩
    go_wp2_with fail
    go_ret
    exact ⟨by simp, rfl⟩
  · obtain ⟨k, rfl⟩ := Int.eq_ofNat_of_zero_le (Int.not_lt.1 h0)
    have hk : (k : Int) ≤ (s.size : Int) := by omega
    go_enter Tryd.func65, Tryd.ntmps65
    go_wp2_with fail
    refine hl.mono ?_
    rintro e w1 ⟨rfl, rfl⟩
    go_wp2_with fail
    all_goals
      go_ret
      refine ⟨?_, rfl⟩
      first
        | rfl
        | (have hk0 : k = 0 := by omega
           subst hk0
           simp)

/-- Does a text begin so? -/
def preB (s p : ByteArray) : Bool := decide (p.size ≤ s.size) && ((s.extract 0 p.size).toList == p.toList)
theorem slHasPrefix_any (w : World) (s p : ByteArray) : Calls Tryd.prog 127 #[.string s, .string p] w fun e w' => e = .returned (.bool (preB s p)) ∧ w' = w := by
  by_cases h : p.size ≤ s.size
  · have h1 : (p.size : Int) ≤ (s.size : Int) := by omega
    have HP := hide (show preB s p = ((s.extract 0 p.size).toList == p.toList) by unfold preB; rw [decide_eq_true h]; rfl)
    go_enter Tryd.func127, Tryd.ntmps127
    go_wp2_with fail
    go_ret
    exact ⟨by rw [unhide HP]; rfl, rfl⟩
  · have h1 : ¬ ((p.size : Int) ≤ (s.size : Int)) := by omega
    have HP := hide (show preB s p = false by unfold preB; rw [decide_eq_false h]; rfl)
    go_enter Tryd.func127, Tryd.ntmps127
    go_wp2_with fail
    go_ret
    exact ⟨by rw [unhide HP]; rfl, rfl⟩
theorem HasPrefix_any (w : World) (s p : ByteArray) : Calls Tryd.prog 113 #[.string s, .string p] w fun e w' => e = .returned (.bool (preB s p)) ∧ w' = w := by
  go_enter Tryd.func113, Tryd.ntmps113
  go_wp2_with fail
  refine (slHasPrefix_any w s p).mono ?_
  rintro e w1 ⟨rfl, rfl⟩
  go_wp2_with fail
  go_ret
  exact ⟨rfl, rfl⟩
/-- Is a path below another? -/
def belowB (s top : ByteArray) : Bool := preB s (top ++ ⟨#[47]⟩)
theorem IsBelow_any (w : World) (s top : ByteArray) (ht : top.size ≤ 4611686018427387904) : Calls Tryd.prog 95 #[.string s, .string top] w fun e w' => e = .returned (.bool (belowB s top)) ∧ w' = w := by
  have hc := HasPrefix_any w s (top ++ ⟨#[47]⟩)
  have n1 : ¬ (9223372036854775807 < top.size + 1) := by omega
  go_enter Tryd.func95, Tryd.ntmps95
  go_wp2_with fail
  refine hc.mono ?_
  rintro e w1 ⟨rfl, rfl⟩
  go_wp2_with fail
  go_ret
  exact ⟨rfl, rfl⟩
end Go.Proofs.YtdakckfjfcnggaaDoor
