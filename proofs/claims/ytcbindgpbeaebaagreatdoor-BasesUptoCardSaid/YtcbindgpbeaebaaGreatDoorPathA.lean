import Derived.Test.YtcbindgpbeaebaaGreatDoorMem
import Derived.Lib.Split
import Derived.Lib.Bytealg
import Derived.Lib.IndexBytes
import Derived.Laws.Externs
import Derived.Laws.Strings3
import Derived.Deep.LoopGhost
import Derived.Handy
namespace Go.Proofs.YtcbindgpbeaebaaGreatDoor
open Go.RowKit Go.Deep

/-- May a byte stand in a step? -/
def okB (b : Int) : Bool := (decide (97 ≤ b) && decide (b ≤ 122)) || (decide (48 ≤ b) && decide (b ≤ 57)) || b == 46 || b == 95 || b == 45

theorem validByte_any (w : World) (b : Int) : Calls Tryz.prog 139 #[.int .u8 b] w fun e w' => e = .returned (.bool (okB b)) ∧ w' = w := by
  go_enter Tryz.func139, Tryz.ntmps139
  go_wp2
  all_goals
    go_ret
    refine ⟨?_, rfl⟩
    simp_all [okB] <;> (rw [Bool.eq_iff_iff]; simp; omega)

theorem toList_at (s : ByteArray) (k : Nat) (h : k < s.size) : s.toList[k]? = some s[k] := by
  rw [Lib.toList_data, Array.getElem?_toList]
  exact Array.getElem?_eq_getElem h
/-- Is a text a step? -/
def okStep (s : ByteArray) : Bool := decide (1 ≤ s.size) && decide (s.size ≤ 8) && !(s.toList == [46]) && !(s.toList == [46, 46]) && s.toList.all fun b => okB (b.toNat : Int)

set_option maxHeartbeats 1600000 in
theorem validStep_any (w : World) (s : ByteArray) (hs : s.size ≤ 4611686018427387904) : Calls Tryz.prog 103 #[.string s] w fun e w' => e = .returned (.bool (okStep s)) ∧ w' = w := by
  by_cases h1 : s.size < 1
  · go_enter Tryz.func103, Tryz.ntmps103
    go_wp2
    go_ret
    exact ⟨by simp [okStep]; omega, rfl⟩
  by_cases h8 : 8 < s.size
  · go_enter Tryz.func103, Tryz.ntmps103
    go_wp2
    go_ret
    exact ⟨by simp [okStep]; omega, rfl⟩
  cases hd : s.toList == [46]
  case true =>
    go_enter Tryz.func103, Tryz.ntmps103
    go_wp2
    go_ret
    exact ⟨by simp [okStep, hd], rfl⟩
  cases hdd : s.toList == [46, 46]
  case true =>
    go_enter Tryz.func103, Tryz.ntmps103
    go_wp2
    go_ret
    exact ⟨by simp [okStep, hdd], rfl⟩
  have hlen : s.toList.length = s.size := by rw [Lib.toList_data]; exact (Lib.size_eq s).symm
  have e0 : okStep s = s.toList.all fun b => okB (b.toNat : Int) := by
    unfold okStep
    rw [hd, hdd, decide_eq_true (by omega), decide_eq_true (by omega)]
    rfl
  rw [e0]
  clear e0
  go_enter Tryz.func103, Tryz.ntmps103
  go_wp2_with fail
  go_loopw [22] (fun i wr => wr = w ∧ ∃ k : Nat, k ≤ s.size ∧ i = .int .i64 k ∧ (s.toList.take k).all (fun b => okB (b.toNat : Int)) = true) (fun i _ => s.size - (intOf i).toNat)
  case atStart => exact ⟨rfl, 0, Nat.zero_le _, rfl, by simp⟩
  case round =>
    obtain ⟨rfl, k, hk, rfl, hall⟩ := hrel
    have HA := hide hall
    clear hall
    by_cases hlt : k < s.size
    · have i0 : (0 : Int) ≤ (k : Int) := Int.natCast_nonneg _
      have i1 : (k : Int) < (s.size : Int) := by omega
      have hat := toList_at s k hlt
      have hin : s[k] ∈ s.toList := List.mem_of_getElem? hat
      have HI := hide hin
      have HT := hide hat
      clear hat hin
      go_wp2_with fail
      refine (validByte_any _ _).mono ?_
      rintro e w1 ⟨rfl, rfl⟩
      cases hb : okB (s[k].toNat : Int)
      · go_wp2_with fail
        go_ret
        refine ⟨?_, rfl⟩
        have : (s.toList.all fun b => okB (b.toNat : Int)) = false := by
          rw [List.all_eq_false]
          exact ⟨_, unhide HI, by rw [hb]; decide⟩
        rw [this]
        rfl
      · go_wp2_with fail
        go_roundw
        case rel =>
          refine ⟨by trivial, k + 1, by omega, by go_num, ?_⟩
          rw [List.take_add_one, unhide HT, List.all_append, unhide HA]
          simp [hb]
        case measure => simp [intOf]; omega
    · have hk' : k = s.size := by omega
      subst hk'
      have : (s.toList.all fun b => okB (b.toNat : Int)) = true := by
        have h := unhide HA
        rw [← hlen, List.take_length] at h
        exact h
      go_wp2_with fail
      go_ret
      exact ⟨by rw [this]; rfl, rfl⟩

/-- Where the first '/' stands, or -1. -/
def slash (s : ByteArray) : Int := Lib.indexB s ⟨#[47]⟩

theorem slash_eq (s : ByteArray) : slash s = Lib.indexByte s.data.toList 47 := Lib.index_one _ _

set_option maxRecDepth 100000 in
theorem slIndexByte_any (w : World) (s : ByteArray) : Calls Tryz.prog 222 #[.string s, .int .u8 47] w fun e w' => e = .returned (.int .i64 (slash s)) ∧ w' = w := by
  go_enter Tryz.func222, Tryz.ntmps222
  go_wp2
  rw [run_callFunc_extern Tryz.func231 (by kernel_rfl) (by kernel_rfl) (by kernel_rfl) (e := Extern.BytealgIndexByte.indexByte) (by kernel_rfl), Lib.run_indexByteString]
  simp only [Result.andThen]
  rw [Oper.upon_value]
  go_wp2
  go_ret
  exact ⟨by rw [slash_eq]; rfl, rfl⟩

set_option maxRecDepth 100000 in
set_option maxHeartbeats 3200000 in
theorem slIndex_any (w : World) (s : ByteArray) : Calls Tryz.prog 205 #[.string s, .string ⟨#[47]⟩] w fun e w' => e = .returned (.int .i64 (slash s)) ∧ w' = w := by
  cases hs : [47] == s.toList
  · go_enter Tryz.func205, Tryz.ntmps205
    go_wp2_with fail
    refine (slIndexByte_any _ s).mono ?_
    rintro e w1 ⟨rfl, rfl⟩
    go_wp2_with fail
    go_ret
    exact ⟨rfl, rfl⟩
  · go_enter Tryz.func205, Tryz.ntmps205
    go_wp2_with fail
    go_ret
    refine ⟨?_, rfl⟩
    have e : s.data.toList = [47] := by
      rw [Lib.toList_data] at hs
      exact (eq_of_beq hs).symm
    rw [slash_eq, e]
    rfl

theorem sIndex_any (w : World) (s : ByteArray) : Calls Tryz.prog 177 #[.string s, .string ⟨#[47]⟩] w fun e w' => e = .returned (.int .i64 (slash s)) ∧ w' = w := by
  go_enter Tryz.func177, Tryz.ntmps177
  go_wp2_with fail
  refine (slIndex_any _ s).mono ?_
  rintro e w1 ⟨rfl, rfl⟩
  go_wp2_with fail
  go_ret
  exact ⟨rfl, rfl⟩

/-- A text cut at '/', in at most five pieces. -/
def cut5 (s : ByteArray) : List ByteArray := Lib.splitB ⟨#[47]⟩ 0 (min 5 (s.size + 1) - 1) s
/-- Is a text a path? -/
def okPath (s : ByteArray) : Bool := decide ((cut5 s).length ≤ 4) && (cut5 s).all okStep

theorem info_str : (Tryz.prog.info? 9).map (fun i => (i.zero, i.size, i.bytes)) = some (some (.string ByteArray.empty), 1, 16) := by kernel_rfl

set_option maxRecDepth 100000 in
set_option maxHeartbeats 3200000 in
theorem genSplit_any (w : World) (s : ByteArray) (n : Int) (hn : n = 5) (hs : s.size ≤ 4611686018427387904) : Calls Tryz.prog 138 #[.string s, .string ⟨#[47]⟩, .int .i64 0, .int .i64 n] w fun e w' =>
    e = .returned (.slice (some ⟨w.heap.size, 0, none⟩) (cut5 s).length (min 5 (s.size + 1))) ∧ w' = w.alloc (.cells (Lib.cellsOf (cut5 s) (min 5 (s.size + 1))) 9) := by
  obtain ⟨N, hN⟩ : ∃ N : Nat, N = min 5 (s.size + 1) := ⟨_, rfl⟩
  have hNs : N ≤ s.size + 1 := by omega
  have hN1 : 1 ≤ N := by omega
  have hN5 : N ≤ 5 := by omega
  have eN' : min n ((s.size : Int) + 1) = (N : Int) := by omega
  have n0 : ¬ n < 0 := by omega
  have n1 : (n == 0) = false := by simp; omega
  clear hn
  have hcut : cut5 s = Lib.splitB ⟨#[47]⟩ 0 (N - 1) s := by rw [cut5, ← hN]
  rw [hcut, ← hN]
  clear hcut hN
  have hmk := fun w => run_make_row' (P := Tryz.prog) 60 9 (.string ByteArray.empty) 16 Tryz.underlying60 info_str rfl .i64 .i64 N (by omega) (by omega) w
  go_enter Tryz.func138, Tryz.ntmps138
  go_wp2_with fail
  all_goals
    first
      | rw [show ((s.size : Int) + 1) = (N : Int) by omega] | rw [show n = (N : Int) by omega]
    rw [hmk]
    simp only [Result.andThen]
    rw [Oper.upon_value]
    go_wp2_with fail
    clear hmk
    go_loopg [0, 10] (N - 1) (fun g s0 s10 wr => ∃ (done : List ByteArray) (rest : ByteArray), s0 = .string rest ∧ s10 = .int .i64 done.length ∧ done.length ≤ N - 1 ∧ g = N - 1 - done.length ∧ rest.size ≤ s.size ∧
        wr = w.alloc (.cells (Lib.cellsOf done N) 9) ∧ done ++ Lib.splitB ⟨#[47]⟩ 0 (N - 1 - done.length) rest = Lib.splitB ⟨#[47]⟩ 0 (N - 1) s)
    case atStart => exact ⟨[], s, rfl, rfl, Nat.zero_le _, rfl, Nat.le_refl _, by rw [Lib.cellsOf_nil], rfl⟩
    case round =>
      obtain ⟨done, rest, rfl, rfl, hd, rfl, hrs, rfl, hsp⟩ := hrel
      have hnext : (Lib.cellsOf done N)[done.length]? = some (.string ByteArray.empty) := Lib.cellsOf_next (by omega)
      have HS := hide hsp
      clear hsp
      have fin : Lib.splitB ⟨#[47]⟩ 0 (N - 1 - done.length) rest = [rest] → (Lib.splitB ⟨#[47]⟩ 0 (N - 1) s).length = done.length + 1 ∧ (Lib.cellsOf done N).setIfInBounds done.length (.string rest) = Lib.cellsOf (Lib.splitB ⟨#[47]⟩ 0 (N - 1) s) N := fun h => by
        have e := unhide HS
        rw [h] at e
        rw [← e]
        exact ⟨by simp, Lib.cellsOf_set (by omega) rest⟩
      by_cases hlt : done.length < N - 1
      · have hltz : ((done.length : Nat) : Int) < (N : Int) - 1 := by omega
        rcases Lib.indexB_cases rest ⟨#[47]⟩ with hix | ⟨i, hix, hroom⟩
        · go_wp2_with fail
          refine (sIndex_any _ rest).mono ?_
          rintro e w1 ⟨rfl, rfl⟩
          rw [show slash rest = -1 from hix]
          go_wp2_with fail
          go_ret
          obtain ⟨f1, f2⟩ := fin (Lib.splitB_miss _ 0 _ rest hix)
          rw [f1, ← f2]
          exact ⟨by first | rfl | (congr 2 <;> omega), rfl⟩
        · have hr1 : i + 1 ≤ rest.size := hroom
          have c0 : ¬ ((i : Int) < 0) := by omega
          have c1 : (0 : Int) ≤ (i : Int) + 0 := by omega
          have c2 : ((i : Int) + 0) ≤ (rest.size : Int) := by omega
          have c3 : (0 : Int) ≤ (i : Int) + 1 := by omega
          have c4 : ((i : Int) + 1) ≤ (rest.size : Int) := by omega
          go_wp2_with fail
          refine (sIndex_any _ rest).mono ?_
          rintro e w1 ⟨rfl, rfl⟩
          rw [show slash rest = (i : Int) from hix]
          go_wp2_with fail
          go_roundg (N - 1 - (done.length + 1))
          case measure => omega
          case rel =>
            refine ⟨done ++ [rest.extract 0 (i + 0)], rest.extract (i + 1) rest.size, rfl, by simp, by simp; omega, by simp, by rw [ByteArray.size_extract]; omega, by rw [← Lib.cellsOf_set (by omega)]; rfl, ?_⟩
            rw [← unhide HS, show N - 1 - done.length = (N - 1 - (done.length + 1)) + 1 by omega, Lib.splitB_hit _ 0 _ rest i hix]
            simp
            rfl
      · have hltz : ¬ (((done.length : Nat) : Int) < (N : Int) - 1) := by omega
        go_wp2_with fail
        go_ret
        obtain ⟨f1, f2⟩ := fin (by rw [show N - 1 - done.length = 0 by omega]; rfl)
        rw [f1, ← f2]
        exact ⟨by first | rfl | (congr 2 <;> omega), rfl⟩

theorem SplitN_any (w : World) (s : ByteArray) (hs : s.size ≤ 4611686018427387904) : Calls Tryz.prog 102 #[.string s, .string ⟨#[47]⟩, .int .i64 5] w fun e w' =>
    e = .returned (.slice (some ⟨w.heap.size, 0, none⟩) (cut5 s).length (min 5 (s.size + 1))) ∧ w' = w.alloc (.cells (Lib.cellsOf (cut5 s) (min 5 (s.size + 1))) 9) := by
  go_enter Tryz.func102, Tryz.ntmps102
  go_wp2_with fail
  refine (genSplit_any _ s 5 rfl hs).mono ?_
  rintro e w1 ⟨rfl, rfl⟩
  go_wp2_with fail
  go_ret
  exact ⟨rfl, rfl⟩

theorem cut5_len (s : ByteArray) : (cut5 s).length ≤ min 5 (s.size + 1) := by
  have := Lib.splitB_length_le ⟨#[47]⟩ 0 (min 5 (s.size + 1) - 1) s
  unfold cut5
  omega
theorem splitB_sizes (sep : ByteArray) (M : Nat) : ∀ (k : Nat) (s : ByteArray), s.size ≤ M → ∀ x ∈ Lib.splitB sep 0 k s, x.size ≤ M
  | 0, s, h, x, hx => by simp [Lib.splitB] at hx; subst hx; exact h
  | k + 1, s, h, x, hx => by
    unfold Lib.splitB at hx
    split at hx
    · simp at hx; subst hx; exact h
    · rcases List.mem_cons.1 hx with rfl | hx
      · rw [ByteArray.size_extract]; omega
      · exact splitB_sizes sep M k _ (by rw [ByteArray.size_extract]; omega) x hx
theorem cellsOf_at {l : List ByteArray} {N k : Nat} {x : ByteArray} (h : l[k]? = some x) : (Lib.cellsOf l N)[k]? = some (.string x) := by
  have hk : k < l.length := by
    rcases Nat.lt_or_ge k l.length with h' | h'
    · exact h'
    · rw [List.getElem?_eq_none h'] at h; cases h
  unfold Lib.cellsOf
  rw [List.getElem?_toArray, List.getElem?_append_left (by simpa using hk), List.getElem?_map, h]
  rfl

set_option maxRecDepth 100000 in
set_option maxHeartbeats 3200000 in
theorem Valid_any (w : World) (s : ByteArray) (hs : s.size ≤ 4611686018427387904) : Calls Tryz.prog 61 #[.string s] w fun e w' => e = .returned (.bool (okPath s)) ∧ ∃ o, w' = w.alloc o := by
  have hl := cut5_len s
  have hsz : ∀ x ∈ cut5 s, x.size ≤ 4611686018427387904 := splitB_sizes _ _ _ s hs
  have HZ := hide hsz
  clear hsz
  obtain ⟨l, hl5⟩ : ∃ l, cut5 s = l := ⟨_, rfl⟩
  have hok : okPath s = (decide (l.length ≤ 4) && l.all okStep) := by rw [okPath, hl5]
  rw [hok]
  clear hok
  have hc := SplitN_any w s hs
  rw [hl5] at hc hl HZ
  clear hl5
  have hcap : min 5 (s.size + 1) ≤ 5 := by omega
  obtain ⟨N, hN⟩ : ∃ N, N = min 5 (s.size + 1) := ⟨_, rfl⟩
  rw [← hN] at hc hl hcap
  clear hN
  by_cases h4 : 4 < l.length
  · have e4 : (decide (l.length ≤ 4) && l.all okStep) = false := by
      have : decide (l.length ≤ 4) = false := by simp; omega
      rw [this]; rfl
    rw [e4]
    clear e4
    go_enter Tryz.func61, Tryz.ntmps61
    go_wp2_with fail
    refine hc.mono ?_
    clear hc
    rintro e w1 ⟨rfl, rfl⟩
    go_wp2_with fail
    go_ret
    exact ⟨rfl, _, rfl⟩
  · have e4 : (decide (l.length ≤ 4) && l.all okStep) = l.all okStep := by
      have : decide (l.length ≤ 4) = true := by simp; omega
      rw [this]; rfl
    rw [e4]
    clear e4
    go_enter Tryz.func61, Tryz.ntmps61
    go_wp2_with fail
    refine hc.mono ?_
    clear hc
    rintro e w1 ⟨rfl, rfl⟩
    go_wp2_with fail
    go_loopw [13] (fun i wr => wr = w.alloc (.cells (Lib.cellsOf l N) 9) ∧ ∃ k : Nat, k ≤ l.length ∧ i = .int .i64 k ∧ (l.take k).all okStep = true) (fun i _ => l.length - (intOf i).toNat)
    case atStart => exact ⟨rfl, 0, Nat.zero_le _, rfl, by simp⟩
    case round =>
      obtain ⟨rfl, k, hk, rfl, hall⟩ := hrel
      have HA := hide hall
      clear hall
      by_cases hlt : k < l.length
      · obtain ⟨x, hx⟩ : ∃ x, l[k]? = some x := ⟨_, List.getElem?_eq_getElem hlt⟩
        have i0 : (0 : Int) ≤ (k : Int) := Int.natCast_nonneg _
        have i1 : (k : Int) < (l.length : Int) := by omega
        have hc : (w.alloc (.cells (Lib.cellsOf l N) 9)).cell? ⟨w.heap.size, k, none⟩ = some (.string x) := by
          rw [cell_of_row _ _ _ _ _ _ (heap_alloc_new w _)]
          exact cellsOf_at hx
        have hxz := (unhide HZ) x (List.mem_of_getElem? hx)
        have HX := hide hx
        clear hx
        go_wp2_with fail
        refine (validStep_any _ x hxz).mono ?_
        rintro e w1 ⟨rfl, rfl⟩
        cases hb : okStep x
        · go_wp2_with fail
          go_ret
          refine ⟨?_, _, rfl⟩
          have : l.all okStep = false := by
            rw [List.all_eq_false]
            exact ⟨_, List.mem_of_getElem? (unhide HX), by rw [hb]; decide⟩
          rw [this]
          rfl
        · go_wp2_with fail
          go_roundw
          case rel =>
            refine ⟨by trivial, k + 1, by omega, by go_num, ?_⟩
            rw [List.take_add_one, unhide HX, List.all_append, unhide HA]
            simp [hb]
          case measure => simp [intOf]; omega
      · have : l.all okStep = true := by
          have h := unhide HA
          rw [List.take_of_length_le (by omega)] at h
          exact h
        go_wp2_with fail
        go_ret
        exact ⟨by rw [this]; rfl, _, rfl⟩
end Go.Proofs.YtcbindgpbeaebaaGreatDoor

namespace Go.Proofs.YtcbindgpbeaebaaGreatDoor
open Go.RowKit Go.Deep

/-- Where the last '/' of the first bytes stands, or -1. -/
def lastTo (s : ByteArray) : Nat → Int
  | 0 => -1
  | k + 1 => if s.toList[k]? = some 47 then (k : Int) else lastTo s k
theorem lastTo_range (s : ByteArray) : ∀ k, -1 ≤ lastTo s k ∧ lastTo s k < (k : Int)
  | 0 => by simp [lastTo]
  | k + 1 => by
    have := lastTo_range s k
    unfold lastTo
    split <;> omega

set_option maxRecDepth 100000 in
set_option maxHeartbeats 3200000 in
theorem baLast_any (w : World) (s : ByteArray) (hs : s.size ≤ 4611686018427387904) : Calls Tryz.prog 147 #[.string s, .int .u8 47] w fun e w' => e = .returned (.int .i64 (lastTo s s.size)) ∧ w' = w := by
  go_enter Tryz.func147, Tryz.ntmps147
  go_wp2_with fail
  go_loopw [5] (fun i wr => wr = w ∧ ∃ k : Nat, k ≤ s.size ∧ i = .int .i64 ((k : Int) - 1) ∧ lastTo s s.size = lastTo s k) (fun i _ => (intOf i + 1).toNat)
  case atStart => exact ⟨rfl, s.size, Nat.le_refl _, rfl, rfl⟩
  case round =>
    obtain ⟨rfl, k, hk, rfl, hL⟩ := hrel
    have HL := hide hL
    clear hL
    by_cases h0 : k = 0
    · subst h0
      go_wp2_with fail
      go_ret
      exact ⟨by rw [unhide HL]; rfl, rfl⟩
    · obtain ⟨j, rfl⟩ : ∃ j, k = j + 1 := ⟨k - 1, by omega⟩
      have hat := toList_at s j (by omega)
      have e1 : ((j + 1 : Nat) : Int) - 1 = (j : Int) := by omega
      rw [e1]
      have i0 : (0 : Int) ≤ (j : Int) := Int.natCast_nonneg _
      have i1 : (j : Int) < (s.size : Int) := by omega
      have hU : lastTo s (j + 1) = if s.toList[j]? = some 47 then (j : Int) else lastTo s j := by rw [lastTo]
      by_cases hb : s[j] = 47
      · have hb' : ((s[j].toNat : Int) == 47) = true := by simp [hb]
        have HU := hide (hU.trans (if_pos (by rw [hat, hb])))
        clear hU hat hb
        go_wp2_with fail
        go_ret
        exact ⟨by rw [unhide HL, unhide HU]; rfl, rfl⟩
      · have hb' : ((s[j].toNat : Int) == 47) = false := by
          simp
          intro h
          exact hb (UInt8.toNat_inj.1 (by simpa using (by omega : s[j].toNat = 47)))
        have HU := hide (hU.trans (if_neg (by rw [hat]; simpa using hb)))
        clear hU hat hb
        go_wp2_with fail
        go_roundw
        case rel => exact ⟨by trivial, j, by omega, by go_num, by rw [unhide HL, unhide HU]⟩
        case measure => first | (simp [intOf]; done) | (simp [intOf]; omega)

/-- The parent of a path. -/
def parentB (s : ByteArray) : ByteArray := s.extract 0 (lastTo s s.size).toNat
theorem Parent_any (w : World) (s : ByteArray) (hs : s.size ≤ 4611686018427387904) : Calls Tryz.prog 68 #[.string s] w fun e w' => e = .returned (.string (parentB s)) ∧ w' = w := by
  have hl : Calls Tryz.prog 109 #[.string s, .int .u8 47] w fun e w' => e = .returned (.int .i64 (lastTo s s.size)) ∧ w' = w := by
    go_enter Tryz.func109, Tryz.ntmps109
    go_wp2_with fail
    refine (baLast_any w s hs).mono ?_
    rintro e w1 ⟨rfl, rfl⟩
    go_wp2_with fail
    go_ret
    exact ⟨rfl, rfl⟩
  have hr := lastTo_range s s.size
  have hP : parentB s = s.extract 0 (lastTo s s.size).toNat := rfl
  obtain ⟨L, hL⟩ : ∃ L, L = lastTo s s.size := ⟨_, rfl⟩
  rw [← hL] at hl hr hP
  rw [hP]
  clear hL hP
  by_cases h0 : L < 0
  · have e1 : L = -1 := by omega
    subst e1
    go_enter Tryz.func68, Tryz.ntmps68
    go_wp2_with fail
    refine hl.mono ?_
    rintro e w1 ⟨rfl, rfl⟩
    go_wp2_with fail
    go_ret
    exact ⟨by simp, rfl⟩
  · obtain ⟨k, rfl⟩ := Int.eq_ofNat_of_zero_le (Int.not_lt.1 h0)
    have hk : (k : Int) ≤ (s.size : Int) := by omega
    go_enter Tryz.func68, Tryz.ntmps68
    go_wp2_with fail
    refine hl.mono ?_
    rintro e w1 ⟨rfl, rfl⟩
    go_wp2_with fail
    all_goals
      go_ret
      refine ⟨?_, rfl⟩
      first
        | rfl
        | (have hk0 : k = 0 := by omega
           subst hk0
           simp)

/-- Does a text begin so? -/
def preB (s p : ByteArray) : Bool := decide (p.size ≤ s.size) && ((s.extract 0 p.size).toList == p.toList)
theorem slHasPrefix_any (w : World) (s p : ByteArray) : Calls Tryz.prog 207 #[.string s, .string p] w fun e w' => e = .returned (.bool (preB s p)) ∧ w' = w := by
  by_cases h : p.size ≤ s.size
  · have h1 : (p.size : Int) ≤ (s.size : Int) := by omega
    have HP := hide (show preB s p = ((s.extract 0 p.size).toList == p.toList) by unfold preB; rw [decide_eq_true h]; rfl)
    go_enter Tryz.func207, Tryz.ntmps207
    go_wp2_with fail
    go_ret
    exact ⟨by rw [unhide HP]; rfl, rfl⟩
  · have h1 : ¬ ((p.size : Int) ≤ (s.size : Int)) := by omega
    have HP := hide (show preB s p = false by unfold preB; rw [decide_eq_false h]; rfl)
    go_enter Tryz.func207, Tryz.ntmps207
    go_wp2_with fail
    go_ret
    exact ⟨by rw [unhide HP]; rfl, rfl⟩
theorem HasPrefix_any (w : World) (s p : ByteArray) : Calls Tryz.prog 179 #[.string s, .string p] w fun e w' => e = .returned (.bool (preB s p)) ∧ w' = w := by
  go_enter Tryz.func179, Tryz.ntmps179
  go_wp2_with fail
  refine (slHasPrefix_any w s p).mono ?_
  rintro e w1 ⟨rfl, rfl⟩
  go_wp2_with fail
  go_ret
  exact ⟨rfl, rfl⟩
/-- Is a path below another? -/
def belowB (s top : ByteArray) : Bool := preB s (top ++ ⟨#[47]⟩)
theorem IsBelow_any (w : World) (s top : ByteArray) (ht : top.size ≤ 4611686018427387904) : Calls Tryz.prog 144 #[.string s, .string top] w fun e w' => e = .returned (.bool (belowB s top)) ∧ w' = w := by
  have hc := HasPrefix_any w s (top ++ ⟨#[47]⟩)
  have n1 : ¬ (9223372036854775807 < top.size + 1) := by omega
  go_enter Tryz.func144, Tryz.ntmps144
  go_wp2_with fail
  refine hc.mono ?_
  rintro e w1 ⟨rfl, rfl⟩
  go_wp2_with fail
  go_ret
  exact ⟨rfl, rfl⟩
end Go.Proofs.YtcbindgpbeaebaaGreatDoor

namespace Go.Proofs.YtcbindgpbeaebaaGreatDoor
open Go.RowKit Go.Deep

/-! ### The order of texts -/
def cmpB (a b : ByteArray) : Int := Lib.compareBytes a.data.toList b.data.toList
theorem cb_self : ∀ a : List UInt8, Lib.compareBytes a a = 0
  | [] => by simp [Lib.compareBytes]
  | x :: r => by simp [Lib.compareBytes, UInt8.lt_irrefl, cb_self r]
theorem cb_zero : ∀ a b : List UInt8, Lib.compareBytes a b = 0 → a = b
  | [], [], _ => rfl
  | [], _ :: _, h => by simp [Lib.compareBytes] at h
  | _ :: _, [], h => by simp [Lib.compareBytes] at h
  | x :: r, y :: q, h => by
    unfold Lib.compareBytes at h
    by_cases h1 : x < y
    · simp [h1] at h
    · by_cases h2 : y < x
      · simp [h1, h2] at h
      · rw [if_neg h1, if_neg h2] at h
        have e : x = y := by
          rw [UInt8.lt_iff_toNat_lt] at h1 h2
          exact UInt8.toNat_inj.1 (by omega)
        rw [e, cb_zero r q h]
theorem cb_swap : ∀ a b : List UInt8, Lib.compareBytes b a = - Lib.compareBytes a b
  | [], [] => by simp [Lib.compareBytes]
  | [], _ :: _ => by simp [Lib.compareBytes]
  | _ :: _, [] => by simp [Lib.compareBytes]
  | x :: r, y :: q => by
    unfold Lib.compareBytes
    by_cases h1 : x < y
    · have h2 : ¬ y < x := by rw [UInt8.lt_iff_toNat_lt] at h1 ⊢; omega
      simp [h1, h2]
    · by_cases h2 : y < x
      · simp [h1, h2]
      · rw [if_neg h1, if_neg h2, if_neg h2, if_neg h1, cb_swap r q]
theorem cb_trans : ∀ a b c : List UInt8, Lib.compareBytes a b < 0 → Lib.compareBytes b c < 0 → Lib.compareBytes a c < 0
  | [], [], _, h, _ => by simp [Lib.compareBytes] at h
  | [], _ :: _, [], _, h => by simp [Lib.compareBytes] at h
  | [], _ :: _, _ :: _, _, _ => by simp [Lib.compareBytes]
  | _ :: _, [], _, h, _ => by simp [Lib.compareBytes] at h
  | _ :: _, _ :: _, [], _, h => by simp [Lib.compareBytes] at h
  | x :: r, y :: q, z :: s, h, k => by
    unfold Lib.compareBytes at h k ⊢
    by_cases h1 : x < y
    · by_cases k1 : y < z
      · have : x < z := by rw [UInt8.lt_iff_toNat_lt] at h1 k1 ⊢; omega
        simp [this]
      · by_cases k2 : z < y
        · simp [k1, k2] at k
        · have e : y = z := by
            rw [UInt8.lt_iff_toNat_lt] at k1 k2
            exact UInt8.toNat_inj.1 (by omega)
          subst e
          simp [h1]
    · by_cases h2 : y < x
      · simp [h1, h2] at h
      · have e : x = y := by
          rw [UInt8.lt_iff_toNat_lt] at h1 h2
          exact UInt8.toNat_inj.1 (by omega)
        subst e
        by_cases k1 : x < z
        · simp [k1]
        · by_cases k2 : z < x
          · simp [k1, k2] at k
          · rw [if_neg h1, if_neg h1] at h
            rw [if_neg k1, if_neg k2] at k ⊢
            exact cb_trans r q s h k
theorem bytes_ext {a b : ByteArray} (h : a.data.toList = b.data.toList) : a = b := by
  obtain ⟨⟨l⟩⟩ := a
  obtain ⟨⟨m⟩⟩ := b
  simp at h
  rw [h]
theorem cmpB_self (a : ByteArray) : cmpB a a = 0 := cb_self _
theorem cmpB_zero {a b : ByteArray} (h : cmpB a b = 0) : a = b := bytes_ext (cb_zero _ _ h)
theorem cmpB_swap (a b : ByteArray) : cmpB b a = - cmpB a b := cb_swap _ _
theorem cmpB_trans {a b c : ByteArray} (h : cmpB a b < 0) (k : cmpB b c < 0) : cmpB a c < 0 := cb_trans _ _ _ h k

/-! ### Nodes, and what a map of them has -/
structure Nd where
  path : ByteArray
  kind : Int
  mode : Int
  tag : Int
  data : ByteArray
/-- A node, and the slot that has it. -/
structure Pl where
  slot : Nat
  node : Nd
def ndC (n : Nd) : List Value := [.string n.path, .int .i64 n.kind, .int .i64 n.mode, .int .i64 n.tag, .string n.data]
def plC (p : Pl) : List Value := [.int .i64 (p.slot : Int), .string p.node.path, .int .i64 p.node.kind, .int .i64 p.node.mode, .int .i64 p.node.tag, .string p.node.data]
def enC (p : Pl) : List Value := [.string p.node.path, .int .i64 (p.slot : Int), .string p.node.path, .int .i64 p.node.kind, .int .i64 p.node.mode, .int .i64 p.node.tag, .string p.node.data]
def ndV (n : Nd) : Value := .agg #[.string n.path, .int .i64 n.kind, .int .i64 n.mode, .int .i64 n.tag, .string n.data]
def plV (p : Pl) : Value := .agg #[.int .i64 (p.slot : Int), .string p.node.path, .int .i64 p.node.kind, .int .i64 p.node.mode, .int .i64 p.node.tag, .string p.node.data]
def enV (p : Pl) : Value := .agg #[.string p.node.path, .int .i64 (p.slot : Int), .string p.node.path, .int .i64 p.node.kind, .int .i64 p.node.mode, .int .i64 p.node.tag, .string p.node.data]
def rowM (M : List Pl) : List Value := M.flatMap enC
theorem rowM_len : ∀ M : List Pl, (rowM M).length = M.length * 7
  | [] => rfl
  | p :: r => by
    have h := rowM_len r
    show (enC p ++ rowM r).length = _
    rw [List.length_append, h]
    simp [enC]; omega
theorem rowM_app (l m : List Pl) : rowM (l ++ m) = rowM l ++ rowM m := by simp [rowM]
theorem rowM_at : ∀ (M : List Pl) (k j : Nat) (p : Pl), M[k]? = some p → j < 7 → (rowM M)[k * 7 + j]? = (enC p)[j]?
  | [], k, j, p, h, _ => by simp at h
  | q :: r, 0, j, p, h, hj => by
    simp at h; subst h
    rw [Nat.zero_mul, Nat.zero_add, rowM, List.flatMap_cons, List.getElem?_append_left (by simp [enC]; omega)]
  | q :: r, k + 1, j, p, h, hj => by
    have ih := rowM_at r k j p (by simpa using h) hj
    rw [rowM, List.flatMap_cons, List.getElem?_append_right (by simp [enC]; omega), ← ih, rowM]
    congr 1
    simp [enC]; omega

/-- The seven cells of an entry. -/
structure At7 (w : World) (g k : Nat) (p : Pl) : Prop where
  c0 : w.cell? ⟨g, k * 7, none⟩ = some (.string p.node.path)
  c1 : w.cell? ⟨g, k * 7 + 1, none⟩ = some (.int .i64 (p.slot : Int))
  c2 : w.cell? ⟨g, k * 7 + 2, none⟩ = some (.string p.node.path)
  c3 : w.cell? ⟨g, k * 7 + 3, none⟩ = some (.int .i64 p.node.kind)
  c4 : w.cell? ⟨g, k * 7 + 4, none⟩ = some (.int .i64 p.node.mode)
  c5 : w.cell? ⟨g, k * 7 + 5, none⟩ = some (.int .i64 p.node.tag)
  c6 : w.cell? ⟨g, k * 7 + 6, none⟩ = some (.string p.node.data)
theorem row7_at {w : World} {B : Nat} {v : Value} {M : List Pl} (h : w.ownsRow B 191 7 v M.length (rowM M)) (k : Nat) (p : Pl) (hk : M[k]? = some p) :
    ∃ g cap, v = .slice (some ⟨g, 0, none⟩) M.length cap ∧ At7 w g k p ∧ g < w.heap.size := by
  have hl : k < M.length := by
    rcases Nat.lt_or_ge k M.length with hlt | hge
    · exact hlt
    · rw [List.getElem?_eq_none hge] at hk; cases hk
  obtain ⟨g, cap, hv, _, hg⟩ := h.form (by omega)
  have hc := h.cells (g := g) (by rw [hv]; rfl)
  have hadd : ∀ j, (⟨g, 0, none⟩ : Addr).add j = ⟨g, j, none⟩ := fun j => by unfold Addr.add; split <;> simp_all
  have hj : ∀ j v, j < 7 → (enC p)[j]? = some v → w.cell? ⟨g, k * 7 + j, none⟩ = some v := fun j v hj hv => by
    rw [← hadd]
    exact hc _ _ (by rw [rowM_at M k j p hk hj, hv])
  exact ⟨g, cap, hv, ⟨hj 0 _ (by omega) rfl, hj 1 _ (by omega) rfl, hj 2 _ (by omega) rfl, hj 3 _ (by omega) rfl, hj 4 _ (by omega) rfl, hj 5 _ (by omega) rfl, hj 6 _ (by omega) rfl⟩, hg⟩

theorem row_form {w : World} {B : Nat} {e : TypeId} {size : Nat} {v : Value} {n : Nat} {xs : List Value} (h : w.ownsRow B e size v n xs) : ∃ ao cap, v = .slice ao n cap := by
  rcases h.2 with ⟨h1, h2⟩ | ⟨g, cap, _, h1, _⟩
  · exact ⟨none, 0, by rw [h1, h2]⟩
  · exact ⟨_, cap, h1⟩
theorem row_below {w w' : World} {B : Nat} {e : TypeId} {size : Nat} {v : Value} {n : Nat} {xs : List Value} (h : w.ownsRow B e size v n xs) (hb : Below w.heap.size w w') : w'.ownsRow B e size v n xs :=
  ownsRow_kept h fun g hg => hb.block g (h.lt g hg).2

/-! ### Compare -/
set_option maxRecDepth 100000 in
theorem CompareString_any (w : World) (a b : ByteArray) : Calls Tryz.prog 178 #[.string a, .string b] w fun e w' => e = .returned (.int .i64 (cmpB a b)) ∧ w' = w := by
  go_enter Tryz.func178, Tryz.ntmps178
  go_wp2
  rw [run_callFunc_extern Tryz.func206 (by kernel_rfl) (by kernel_rfl) (by kernel_rfl) (e := Extern.BytealgCompare.compare) (by kernel_rfl), Lib.run_compareString]
  simp only [Result.andThen]
  rw [Oper.upon_value]
  go_wp2
  go_ret
  exact ⟨rfl, rfl⟩
theorem Compare_any (w : World) (a b : ByteArray) : Calls Tryz.prog 143 #[.string a, .string b] w fun e w' => e = .returned (.int .i64 (cmpB a b)) ∧ w' = w := by
  go_enter Tryz.func143, Tryz.ntmps143
  go_wp2_with fail
  refine (CompareString_any w a b).mono ?_
  rintro e w1 ⟨rfl, rfl⟩
  go_wp2_with fail
  go_ret
  exact ⟨rfl, rfl⟩
theorem find1_cmp (w : World) (p : Pl) (q : ByteArray) : Calls Tryz.prog 159 #[enV p, .string q] w fun e w' => e = .returned (.int .i64 (cmpB p.node.path q)) ∧ Below w.heap.size w w' := by
  unfold enV
  go_enter Tryz.func159, Tryz.ntmps159
  go_wp2_with fail
  refine (Compare_any _ p.node.path q).mono ?_
  rintro e w1 ⟨rfl, rfl⟩
  go_wp2_with fail
  go_ret
  exact ⟨rfl, (Below.refl _ _).alloc (Nat.le_refl _) _⟩

/-- Where a path stands in a map, or would. -/
structure IsPos (M : List Pl) (q : ByteArray) (i : Nat) : Prop where
  le : i ≤ M.length
  lo : ∀ k p, k < i → M[k]? = some p → cmpB p.node.path q < 0
  hi : ∀ k p, i ≤ k → M[k]? = some p → 0 ≤ cmpB p.node.path q
/-- .. does it stand there? -/
def thereAt (M : List Pl) (q : ByteArray) (i : Nat) : Bool := match M[i]? with
  | some p => cmpB p.node.path q == 0
  | none => false
/-- The paths are in order. -/
def Ord (M : List Pl) : Prop := M.Pairwise fun a b => cmpB a.node.path b.node.path < 0
theorem Ord.at {M : List Pl} (h : Ord M) {i j : Nat} {a b : Pl} (hi : M[i]? = some a) (hj : M[j]? = some b) (hij : i < j) : cmpB a.node.path b.node.path < 0 := by
  obtain ⟨hi', rfl⟩ := List.getElem?_eq_some_iff.1 hi
  obtain ⟨hj', rfl⟩ := List.getElem?_eq_some_iff.1 hj
  exact List.pairwise_iff_getElem.1 h i j hi' hj' hij

set_option maxRecDepth 100000 in
set_option maxHeartbeats 3200000 in
theorem bsearch_any (w : World) (B : Nat) (v : Value) (M : List Pl) (q : ByteArray) (h : w.ownsRow B 191 7 v M.length (rowM M)) (hord : Ord M) (hm : M.length ≤ 1000000) :
    Calls Tryz.prog 158 #[v, .string q, .func (.func 159) #[] #[]] w fun e w' => ∃ i : Nat, e = .returned (.tuple #[.int .i64 (i : Int), .bool (thereAt M q i)]) ∧ IsPos M q i ∧ Below w.heap.size w w' := by
  obtain ⟨ao, cap, rfl⟩ := row_form h
  have HO := hide hord
  clear hord
  go_enter Tryz.func158, Tryz.ntmps158
  go_wp2_with fail
  go_loopw [9, 10] (fun a b wr => ∃ i j : Nat, a = .int .i64 i ∧ b = .int .i64 j ∧ i ≤ j ∧ j ≤ M.length ∧ (∀ k p, k < i → M[k]? = some p → cmpB p.node.path q < 0) ∧ (∀ k p, j ≤ k → M[k]? = some p → 0 ≤ cmpB p.node.path q) ∧ Below w.heap.size w wr) (fun a b _ => (intOf b).toNat - (intOf a).toNat)
  case atStart =>
    refine ⟨0, M.length, rfl, rfl, Nat.zero_le _, Nat.le_refl _, fun k p hk => by omega, fun k p hk hp => ?_, Below.refl _ _⟩
    rw [List.getElem?_eq_none hk] at hp; cases hp
  case round =>
    obtain ⟨i, j, rfl, rfl, hij, hj, hlo, hhi, hb⟩ := hrel
    have HL := hide hlo
    have HH := hide hhi
    clear hlo hhi
    by_cases hlt : i < j
    · obtain ⟨m, hm'⟩ : ∃ m : Nat, m = (i + j) / 2 := ⟨_, rfl⟩
      have he : ((i : Int) + (j : Int)) / 2 = (m : Int) := by omega
      have hm1 : m < M.length := by omega
      obtain ⟨p, hp⟩ : ∃ p, M[m]? = some p := ⟨_, List.getElem?_eq_getElem hm1⟩
      have hr := row_below h hb
      obtain ⟨g, cap', hv, ⟨c0, c1, c2, c3, c4, c5, c6⟩, hg⟩ := row7_at hr m p hp
      simp only [Value.slice.injEq, true_and] at hv
      obtain ⟨rfl, rfl⟩ := hv
      have m0 : (0 : Int) ≤ (i : Int) + (j : Int) := by omega
      have i0 : (0 : Int) ≤ (m : Int) := Int.natCast_nonneg _
      have i1 : (m : Int) < (M.length : Int) := by omega
      have HP := hide hp
      have HM := hide hm'
      clear hp hm'
      go_wp2_with fail
      refine (find1_cmp wr p q).mono ?_
      rintro e w1 ⟨rfl, hb1⟩
      have hbw := hb.trans (hb1.mono hb.size)
      by_cases hc : cmpB p.node.path q < 0
      · go_wp2_with fail
        go_roundw
        case rel =>
          refine ⟨m + 1, j, by go_num, rfl, ?_, hj, ?_, unhide HH, hbw⟩
          · have := unhide HM; omega
          · intro k p' hk hp'
            rcases Nat.lt_or_eq_of_le (Nat.le_of_lt_succ hk) with hk | rfl
            · exact cmpB_trans ((unhide HO).at hp' (unhide HP) hk) hc
            · rw [unhide HP] at hp'; cases hp'; exact hc
        case measure =>
          have := unhide HM
          simp [intOf]; omega
      · have hc' : 0 ≤ cmpB p.node.path q := by omega
        go_wp2_with fail
        go_roundw
        case rel =>
          refine ⟨i, m, rfl, by go_num, ?_, by omega, unhide HL, ?_, hbw⟩
          · have := unhide HM; omega
          · intro k p' hk hp'
            rcases Nat.lt_or_eq_of_le hk with hk | rfl
            · have h1 := (unhide HO).at (unhide HP) hp' hk
              rcases Int.lt_or_le (cmpB p'.node.path q) 0 with h2 | h2
              · have := cmpB_trans h1 h2; omega
              · exact h2
            · rw [unhide HP] at hp'; cases hp'; exact hc'
        case measure =>
          have := unhide HM
          simp [intOf]; omega
    · have hij' : i = j := by omega
      subst hij'
      have hpos : IsPos M q i := ⟨hj, unhide HL, unhide HH⟩
      have HP := hide hpos
      clear hpos
      by_cases hn : i < M.length
      · obtain ⟨p, hp⟩ : ∃ p, M[i]? = some p := ⟨_, List.getElem?_eq_getElem hn⟩
        have hr := row_below h hb
        obtain ⟨g, cap', hv, ⟨c0, c1, c2, c3, c4, c5, c6⟩, hg⟩ := row7_at hr i p hp
        simp only [Value.slice.injEq, true_and] at hv
        obtain ⟨rfl, rfl⟩ := hv
        have i0 : (0 : Int) ≤ (i : Int) := Int.natCast_nonneg _
        have i1 : (i : Int) < (M.length : Int) := by omega
        have HT : Hid (thereAt M q i = (cmpB p.node.path q == 0)) := by show thereAt M q i = _; simp [thereAt, hp]
        clear hp
        go_wp2_with fail
        refine (find1_cmp wr p q).mono ?_
        rintro e w1 ⟨rfl, hb1⟩
        have hbw := hb.trans (hb1.mono hb.size)
        go_wp2_with fail
        go_ret2
        exact ⟨i, by rw [unhide HT]; rfl, unhide HP, hbw⟩
      · have HT : Hid (thereAt M q i = false) := by show thereAt M q i = _; simp [thereAt, List.getElem?_eq_none (Nat.le_of_not_lt hn)]
        go_wp2_with fail
        go_ret2
        exact ⟨i, by rw [unhide HT]; rfl, unhide HP, hb⟩

/-- A map in memory. -/
structure MAt (w : World) (B bm : Nat) (ev : Value) (M : List Pl) : Prop where
  own : w.heap[bm]? = some (.cells #[ev] 194 (0, 0))
  row : w.ownsRow B 191 7 ev M.length (rowM M)
  b0 : B ≤ bm
  ne : ev.ownBlock ≠ some bm
theorem MAt.cell {w : World} {B bm : Nat} {ev : Value} {M : List Pl} (h : MAt w B bm ev M) : w.cell? ⟨bm, 0, none⟩ = some ev := by rw [cell_of_row w bm 0 _ _ _ h.own]; rfl
theorem MAt.fz {w : World} {B bm : Nat} {ev : Value} {M : List Pl} (h : MAt w B bm ev M) (i : Nat) : w.frozen? ⟨bm, i, none⟩ = false := frozen_of_row w bm i _ _ h.own
theorem MAt.lt {w : World} {B bm : Nat} {ev : Value} {M : List Pl} (h : MAt w B bm ev M) : bm < w.heap.size := lt_of_heap h.own
theorem MAt.kept {w w' : World} {B bm : Nat} {ev : Value} {M : List Pl} (h : MAt w B bm ev M) (hk : ∀ k, k < w.heap.size → (k = bm ∨ ev.ownBlock = some k) → w'.heap[k]? = w.heap[k]?) : MAt w' B bm ev M :=
  ⟨(hk bm h.lt (.inl rfl)).trans h.own, ownsRow_kept h.row fun g hg => hk g (h.row.lt g hg).2 (.inr hg), h.b0, h.ne⟩
theorem MAt.below {w w' : World} {B bm : Nat} {ev : Value} {M : List Pl} (h : MAt w B bm ev M) (hb : Below w.heap.size w w') : MAt w' B bm ev M := h.kept fun k hk _ => hb.block k hk

theorem mfind_any (w : World) (B bm : Nat) (ev : Value) (M : List Pl) (q : ByteArray) (h : MAt w B bm ev M) (hord : Ord M) (hm : M.length ≤ 1000000) :
    Calls Tryz.prog 119 #[.pointer (some ⟨bm, 0, none⟩), .string q] w fun e w' => ∃ i : Nat, e = .returned (.tuple #[.int .i64 (i : Int), .bool (thereAt M q i)]) ∧ IsPos M q i ∧ Below w.heap.size w w' := by
  have c := h.cell
  go_enter Tryz.func119, Tryz.ntmps119
  go_wp2_with fail
  refine (bsearch_any w B ev M q h.row hord hm).mono ?_
  rintro e w1 ⟨i, rfl, hi, hb⟩
  go_wp2_with fail
  go_ret2
  exact ⟨i, rfl, hi, hb⟩

theorem mlen_any (w : World) (B bm : Nat) (ev : Value) (M : List Pl) (h : MAt w B bm ev M) :
    Calls Tryz.prog 82 #[.pointer (some ⟨bm, 0, none⟩)] w fun e w' => e = .returned (.int .i64 (M.length : Int)) ∧ w' = w := by
  have c := h.cell
  obtain ⟨ao, cap, rfl⟩ := row_form h.row
  go_enter Tryz.func82, Tryz.ntmps82
  go_wp2_with fail
  go_ret
  exact ⟨rfl, rfl⟩
end Go.Proofs.YtcbindgpbeaebaaGreatDoor

namespace Go.Proofs.YtcbindgpbeaebaaGreatDoor
open Go.RowKit Go.Deep

/-- What is at a path. -/
def getM (M : List Pl) (q : ByteArray) : Option Pl := M.find? fun p => cmpB p.node.path q == 0
theorem getM_pos {M : List Pl} {q : ByteArray} {i : Nat} (hord : Ord M) (hi : IsPos M q i) : getM M q = if thereAt M q i then M[i]? else none := by
  unfold thereAt
  cases hm : M[i]? with
  | none =>
    show getM M q = none
    unfold getM
    rw [List.find?_eq_none]
    intro x hx
    obtain ⟨k, hk⟩ := List.getElem?_of_mem hx
    have hl : k < i := by
      rcases Nat.lt_or_ge k i with h | h
      · exact h
      · have := (List.getElem?_eq_some_iff.1 hk).1
        have := List.getElem?_eq_none_iff.1 hm
        omega
    have := hi.lo k x hl hk
    simp; omega
  | some p =>
    cases hp : cmpB p.node.path q == 0
    · simp only [hp, Bool.false_eq_true, if_false]
      unfold getM
      rw [List.find?_eq_none]
      intro x hx
      obtain ⟨k, hk⟩ := List.getElem?_of_mem hx
      have hp0 := hi.hi i p (Nat.le_refl _) hm
      have hp1 : cmpB p.node.path q ≠ 0 := by simpa using hp
      rcases Nat.lt_trichotomy k i with h | h | h
      · have := hi.lo k x h hk; simp; omega
      · subst h; rw [hm] at hk; cases hk; simpa using hp
      · have h1 := hord.at hm hk h
        simp only [beq_iff_eq]
        intro h2
        have := cmpB_zero h2
        rw [this] at h1
        omega
    · simp only [hp, if_true]
      have e0 : p.node.path = q := cmpB_zero (by simpa using hp)
      unfold getM
      have hl : i < M.length := (List.getElem?_eq_some_iff.1 hm).1
      have e : M = M.take i ++ (p :: M.drop (i + 1)) := by
        have := List.take_append_drop i M
        rw [List.drop_eq_getElem_cons hl, (List.getElem?_eq_some_iff.1 hm).2] at this
        exact this.symm
      rw [e, List.find?_append]
      have : (M.take i).find? (fun p => cmpB p.node.path q == 0) = none := by
        rw [List.find?_eq_none]
        intro x hx
        obtain ⟨k, hk⟩ := List.getElem?_of_mem hx
        rw [List.getElem?_take] at hk
        split at hk
        · next h => have := hi.lo k x h hk; simp; omega
        · cases hk
      rw [this]
      simp [hp]

def zPl : Value := .agg #[.int .i64 0, .string ⟨#[]⟩, .int .i64 0, .int .i64 0, .int .i64 0, .string ⟨#[]⟩]
def optPl : Option Pl → Value
  | some p => plV p
  | none => zPl

set_option maxRecDepth 100000 in
set_option maxHeartbeats 3200000 in
theorem mget_any (w : World) (B bm : Nat) (ev : Value) (M : List Pl) (q : ByteArray) (h : MAt w B bm ev M) (hord : Ord M) (hm : M.length ≤ 1000000) :
    Calls Tryz.prog 77 #[.pointer (some ⟨bm, 0, none⟩), .string q] w fun e w' => e = .returned (.tuple #[optPl (getM M q), .bool (getM M q).isSome]) ∧ Below w.heap.size w w' := by
  go_enter Tryz.func77, Tryz.ntmps77
  go_wp2_with fail
  refine (mfind_any _ B bm ev M q (h.below ((Below.refl _ _).alloc (Nat.le_refl _) _)) hord hm).mono ?_
  rintro e w1 ⟨i, rfl, hi, hb⟩
  have hg := getM_pos hord hi
  have hb1 : Below (w.heap.size + 1) (w.alloc (.cells #[.int .i64 0, .string ⟨#[]⟩, .int .i64 0, .int .i64 0, .int .i64 0, .string ⟨#[]⟩] 148)) w1 := by simpa using hb
  have hc := hb1.block w.heap.size (by omega)
  rw [heap_alloc_new] at hc
  have hne : ¬ w.heap.size = w1.heap.size := by have := hb1.size; simp at this; omega
  have hca := (Below.heap_alloc w1 (.cells #[.int .i64 0, .string ⟨#[]⟩, .int .i64 0, .int .i64 0, .int .i64 0, .string ⟨#[]⟩] 148) w.heap.size (by have := hb1.size; simp at this; omega)).trans hc
  have hba : Below w.heap.size w w1 := ((Below.refl w.heap.size w).alloc (Nat.le_refl _) _).trans (hb1.mono (by omega))
  have HBA := hide hba
  have hM := (h.below ((Below.refl _ _).alloc (Nat.le_refl _) _)).below hb
  have HB := hide hb1
  clear hb1 hb hba
  cases ht : thereAt M q i
  · have z := fun j => frozen_of_row _ w.heap.size j _ _ hca
    have z0 := z 0
    have z1 := z 1
    have z2 := z 2
    have z3 := z 3
    have z4 := z 4
    have z5 := z 5
    clear z
    have c := fun j => cell_of_row _ w.heap.size j _ _ _ hca
    have c0 := c 0
    have c1 := c 1
    have c2 := c 2
    have c3 := c 3
    have c4 := c 4
    have c5 := c 5
    simp at c0 c1 c2 c3 c4 c5
    clear c hca hc
    rw [ht] at hg
    have HG := hide (show getM M q = none from hg)
    clear hM hg
    go_wp2_with fail
    refine bodyPost_ret (v := .tuple #[zPl, .bool false]) ?_ rfl ⟨by rw [unhide HG]; rfl, ?_⟩
    · simp [results, Tryz.f77, go_sem, c0, c1, c2, c3, c4, c5, zPl]
    · exact (((((((unhide HBA).alloc (unhide HBA).size _).setCell (p := ⟨w.heap.size, 0, none⟩) (Nat.le_refl _) _).setCell (p := ⟨w.heap.size, 1, none⟩) (Nat.le_refl _) _).setCell (p := ⟨w.heap.size, 2, none⟩) (Nat.le_refl _) _).setCell (p := ⟨w.heap.size, 3, none⟩) (Nat.le_refl _) _).setCell (p := ⟨w.heap.size, 4, none⟩) (Nat.le_refl _) _).setCell (p := ⟨w.heap.size, 5, none⟩) (Nat.le_refl _) _
  · have z := fun j => frozen_of_row _ w.heap.size j _ _ hc
    have z0 := z 0
    have z1 := z 1
    have z2 := z 2
    have z3 := z 3
    have z4 := z 4
    have z5 := z 5
    clear z
    have c := fun j => cell_of_row _ w.heap.size j _ _ _ hc
    have c0 := c 0
    have c1 := c 1
    have c2 := c 2
    have c3 := c 3
    have c4 := c 4
    have c5 := c 5
    simp at c0 c1 c2 c3 c4 c5
    clear c hca hc
    rw [ht] at hg
    have hil : i < M.length := by
      unfold thereAt at ht
      cases hq : M[i]? with
      | none => rw [hq] at ht; cases ht
      | some p => exact (List.getElem?_eq_some_iff.1 hq).1
    obtain ⟨p, hp⟩ : ∃ p, M[i]? = some p := ⟨_, List.getElem?_eq_getElem hil⟩
    have HG := hide (show getM M q = some p from hg.trans hp)
    have mc := hM.cell
    obtain ⟨g, cap, rfl, ⟨d0, d1, d2, d3, d4, d5, d6⟩, hgl⟩ := row7_at hM.row i p hp
    have i0 : (0 : Int) ≤ (i : Int) := Int.natCast_nonneg _
    have i1 : (i : Int) < (M.length : Int) := by omega
    clear hM hg hp
    go_wp2_with fail
    refine bodyPost_ret (v := .tuple #[plV p, .bool true]) ?_ rfl ⟨by rw [unhide HG]; rfl, ?_⟩
    · simp [results, Tryz.f77, go_sem, c0, c1, c2, c3, c4, c5, plV]
    · exact ((((((unhide HBA).setCell (p := ⟨w.heap.size, 0, none⟩) (Nat.le_refl _) _).setCell (p := ⟨w.heap.size, 1, none⟩) (Nat.le_refl _) _).setCell (p := ⟨w.heap.size, 2, none⟩) (Nat.le_refl _) _).setCell (p := ⟨w.heap.size, 3, none⟩) (Nat.le_refl _) _).setCell (p := ⟨w.heap.size, 4, none⟩) (Nat.le_refl _) _).setCell (p := ⟨w.heap.size, 5, none⟩) (Nat.le_refl _) _
end Go.Proofs.YtcbindgpbeaebaaGreatDoor
