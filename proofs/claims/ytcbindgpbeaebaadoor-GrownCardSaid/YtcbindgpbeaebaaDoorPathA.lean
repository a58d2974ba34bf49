import Derived.Test.YtcbindgpbeaebaaDoorMem
import Derived.Lib.Split
import Derived.Lib.Bytealg
import Derived.Lib.IndexBytes
import Derived.Laws.Externs
import Derived.Laws.Strings3
import Derived.Deep.LoopGhost
namespace Go.Proofs.YtcbindgpbeaebaaDoor
open Go.RowKit Go.Deep

/-- May a byte stand in a step? -/
def okB (b : Int) : Bool := (decide (97 ≤ b) && decide (b ≤ 122)) || (decide (48 ≤ b) && decide (b ≤ 57)) || b == 46 || b == 95 || b == 45

theorem validByte_any (w : World) (b : Int) : Calls Tryd.prog 78 #[.int .u8 b] w fun e w' => e = .returned (.bool (okB b)) ∧ w' = w := by
  go_enter Tryd.func78, Tryd.ntmps78
  go_wp2
  all_goals
    go_ret
    refine ⟨?_, rfl⟩
    simp_all [okB] <;> (rw [Bool.eq_iff_iff]; simp; omega)

theorem toList_at (s : ByteArray) (k : Nat) (h : k < s.size) : s.toList[k]? = some s[k] := by
  rw [Lib.toList_data, Array.getElem?_toList]
  exact Array.getElem?_eq_getElem h
/-- Is a text a step? -/
def okStep (s : ByteArray) : Bool := decide (1 ≤ s.size) && decide (s.size ≤ 8) && !(s.toList == [46]) && !(s.toList == [46, 46]) && s.toList.all fun b => okB (b.toNat : Int)

set_option maxHeartbeats 1600000 in
theorem validStep_any (w : World) (s : ByteArray) (hs : s.size ≤ 4611686018427387904) : Calls Tryd.prog 59 #[.string s] w fun e w' => e = .returned (.bool (okStep s)) ∧ w' = w := by
  by_cases h1 : s.size < 1
  · go_enter Tryd.func59, Tryd.ntmps59
    go_wp2
    go_ret
    exact ⟨by simp [okStep]; omega, rfl⟩
  by_cases h8 : 8 < s.size
  · go_enter Tryd.func59, Tryd.ntmps59
    go_wp2
    go_ret
    exact ⟨by simp [okStep]; omega, rfl⟩
  cases hd : s.toList == [46]
  case true =>
    go_enter Tryd.func59, Tryd.ntmps59
    go_wp2
    go_ret
    exact ⟨by simp [okStep, hd], rfl⟩
  cases hdd : s.toList == [46, 46]
  case true =>
    go_enter Tryd.func59, Tryd.ntmps59
    go_wp2
    go_ret
    exact ⟨by simp [okStep, hdd], rfl⟩
  have hlen : s.toList.length = s.size := by rw [Lib.toList_data]; exact (Lib.size_eq s).symm
  have e0 : okStep s = s.toList.all fun b => okB (b.toNat : Int) := by
    unfold okStep
    rw [hd, hdd, decide_eq_true (by omega), decide_eq_true (by omega)]
    rfl
  rw [e0]
  clear e0
  go_enter Tryd.func59, Tryd.ntmps59
  go_wp2_with fail
  go_loopw [22] (fun i wr => wr = w ∧ ∃ k : Nat, k ≤ s.size ∧ i = .int .i64 k ∧ (s.toList.take k).all (fun b => okB (b.toNat : Int)) = true) (fun i _ => s.size - (intOf i).toNat)
  case atStart => exact ⟨rfl, 0, Nat.zero_le _, rfl, by simp⟩
  case round =>
    obtain ⟨rfl, k, hk, rfl, hall⟩ := hrel
    have HA := hide hall
    clear hall
    by_cases hlt : k < s.size
    · have i0 : (0 : Int) ≤ (k : Int) := Int.natCast_nonneg _
      have i1 : (k : Int) < (s.size : Int) := by omega
      have hat := toList_at s k hlt
      have hin : s[k] ∈ s.toList := List.mem_of_getElem? hat
      have HI := hide hin
      have HT := hide hat
      clear hat hin
      go_wp2_with fail
      refine (validByte_any _ _).mono ?_
      rintro e w1 ⟨rfl, rfl⟩
      cases hb : okB (s[k].toNat : Int)
      · go_wp2_with fail
        go_ret
        refine ⟨?_, rfl⟩
        have : (s.toList.all fun b => okB (b.toNat : Int)) = false := by
          rw [List.all_eq_false]
          exact ⟨_, unhide HI, by rw [hb]; decide⟩
        rw [this]
        rfl
      · go_wp2_with fail
        go_roundw
        case rel =>
          refine ⟨by trivial, k + 1, by omega, by go_num, ?_⟩
          rw [List.take_add_one, unhide HT, List.all_append, unhide HA]
          simp [hb]
        case measure => simp [intOf]; omega
    · have hk' : k = s.size := by omega
      subst hk'
      have : (s.toList.all fun b => okB (b.toNat : Int)) = true := by
        have h := unhide HA
        rw [← hlen, List.take_length] at h
        exact h
      go_wp2_with fail
      go_ret
      exact ⟨by rw [this]; rfl, rfl⟩

/-- Where the first '/' stands, or -1. -/
def slash (s : ByteArray) : Int := Lib.indexB s ⟨#[47]⟩

theorem slash_eq (s : ByteArray) : slash s = Lib.indexByte s.data.toList 47 := Lib.index_one _ _

set_option maxRecDepth 100000 in
theorem slIndexByte_any (w : World) (s : ByteArray) : Calls Tryd.prog 136 #[.string s, .int .u8 47] w fun e w' => e = .returned (.int .i64 (slash s)) ∧ w' = w := by
  go_enter Tryd.func136, Tryd.ntmps136
  go_wp2
  rw [run_callFunc_extern Tryd.func143 (by kernel_rfl) (by kernel_rfl) (by kernel_rfl) (e := Extern.BytealgIndexByte.indexByte) (by kernel_rfl), Lib.run_indexByteString]
  simp only [Result.andThen]
  rw [Oper.upon_value]
  go_wp2
  go_ret
  exact ⟨by rw [slash_eq]; rfl, rfl⟩

set_option maxRecDepth 100000 in
set_option maxHeartbeats 3200000 in
theorem slIndex_any (w : World) (s : ByteArray) : Calls Tryd.prog 125 #[.string s, .string ⟨#[47]⟩] w fun e w' => e = .returned (.int .i64 (slash s)) ∧ w' = w := by
  cases hs : [47] == s.toList
  · go_enter Tryd.func125, Tryd.ntmps125
    go_wp2_with fail
    refine (slIndexByte_any _ s).mono ?_
    rintro e w1 ⟨rfl, rfl⟩
    go_wp2_with fail
    go_ret
    exact ⟨rfl, rfl⟩
  · go_enter Tryd.func125, Tryd.ntmps125
    go_wp2_with fail
    go_ret
    refine ⟨?_, rfl⟩
    have e : s.data.toList = [47] := by
      rw [Lib.toList_data] at hs
      exact (eq_of_beq hs).symm
    rw [slash_eq, e]
    rfl

theorem sIndex_any (w : World) (s : ByteArray) : Calls Tryd.prog 107 #[.string s, .string ⟨#[47]⟩] w fun e w' => e = .returned (.int .i64 (slash s)) ∧ w' = w := by
  go_enter Tryd.func107, Tryd.ntmps107
  go_wp2_with fail
  refine (slIndex_any _ s).mono ?_
  rintro e w1 ⟨rfl, rfl⟩
  go_wp2_with fail
  go_ret
  exact ⟨rfl, rfl⟩

/-- A text cut at '/', in at most five pieces. -/
def cut5 (s : ByteArray) : List ByteArray := Lib.splitB ⟨#[47]⟩ 0 (min 5 (s.size + 1) - 1) s
/-- Is a text a path? -/
def okPath (s : ByteArray) : Bool := decide ((cut5 s).length ≤ 4) && (cut5 s).all okStep

theorem info_str : (Tryd.prog.info? 9).map (fun i => (i.zero, i.size, i.bytes)) = some (some (.string ByteArray.empty), 1, 16) := by kernel_rfl

set_option maxRecDepth 100000 in
set_option maxHeartbeats 3200000 in
theorem genSplit_any (w : World) (s : ByteArray) (n : Int) (hn : n = 5) (hs : s.size ≤ 4611686018427387904) : Calls Tryd.prog 77 #[.string s, .string ⟨#[47]⟩, .int .i64 0, .int .i64 n] w fun e w' =>
    e = .returned (.slice (some ⟨w.heap.size, 0, none⟩) (cut5 s).length (min 5 (s.size + 1))) ∧ w' = w.alloc (.cells (Lib.cellsOf (cut5 s) (min 5 (s.size + 1))) 9) := by
  obtain ⟨N, hN⟩ : ∃ N : Nat, N = min 5 (s.size + 1) := ⟨_, rfl⟩
  have hNs : N ≤ s.size + 1 := by omega
  have hN1 : 1 ≤ N := by omega
  have hN5 : N ≤ 5 := by omega
  have eN' : min n ((s.size : Int) + 1) = (N : Int) := by omega
  have n0 : ¬ n < 0 := by omega
  have n1 : (n == 0) = false := by simp; omega
  clear hn
  have hcut : cut5 s = Lib.splitB ⟨#[47]⟩ 0 (N - 1) s := by rw [cut5, ← hN]
  rw [hcut, ← hN]
  clear hcut hN
  have hmk := fun w => run_make_row' (P := Tryd.prog) 72 9 (.string ByteArray.empty) 16 Tryd.underlying72 info_str rfl .i64 .i64 N (by omega) (by omega) w
  go_enter Tryd.func77, Tryd.ntmps77
  go_wp2_with fail
  all_goals
    first
      | rw [show ((s.size : Int) + 1) = (N : Int) by omega] | rw [show n = (N : Int) by omega]
    rw [hmk]
    simp only [Result.andThen]
    rw [Oper.upon_value]
    go_wp2_with fail
    clear hmk
    go_loopg [0, 10] (N - 1) (fun g s0 s10 wr => ∃ (done : List ByteArray) (rest : ByteArray), s0 = .string rest ∧ s10 = .int .i64 done.length ∧ done.length ≤ N - 1 ∧ g = N - 1 - done.length ∧ rest.size ≤ s.size ∧
        wr = w.alloc (.cells (Lib.cellsOf done N) 9) ∧ done ++ Lib.splitB ⟨#[47]⟩ 0 (N - 1 - done.length) rest = Lib.splitB ⟨#[47]⟩ 0 (N - 1) s)
    case atStart => exact ⟨[], s, rfl, rfl, Nat.zero_le _, rfl, Nat.le_refl _, by rw [Lib.cellsOf_nil], rfl⟩
    case round =>
      obtain ⟨done, rest, rfl, rfl, hd, rfl, hrs, rfl, hsp⟩ := hrel
      have hnext : (Lib.cellsOf done N)[done.length]? = some (.string ByteArray.empty) := Lib.cellsOf_next (by omega)
      have HS := hide hsp
      clear hsp
      have fin : Lib.splitB ⟨#[47]⟩ 0 (N - 1 - done.length) rest = [rest] → (Lib.splitB ⟨#[47]⟩ 0 (N - 1) s).length = done.length + 1 ∧ (Lib.cellsOf done N).setIfInBounds done.length (.string rest) = Lib.cellsOf (Lib.splitB ⟨#[47]⟩ 0 (N - 1) s) N := fun h => by
        have e := unhide HS
        rw [h] at e
        rw [← e]
        exact ⟨by simp, Lib.cellsOf_set (by omega) rest⟩
      by_cases hlt : done.length < N - 1
      · have hltz : ((done.length : Nat) : Int) < (N : Int) - 1 := by omega
        rcases Lib.indexB_cases rest ⟨#[47]⟩ with hix | ⟨i, hix, hroom⟩
        · go_wp2_with fail
          refine (sIndex_any _ rest).mono ?_
          rintro e w1 ⟨rfl, rfl⟩
          rw [show slash rest = -1 from hix]
          go_wp2_with fail
          go_ret
          obtain ⟨f1, f2⟩ := fin (Lib.splitB_miss _ 0 _ rest hix)
          rw [f1, ← f2]
          exact ⟨by first | rfl | (congr 2 <;> omega), rfl⟩
        · have hr1 : i + 1 ≤ rest.size := hroom
          have c0 : ¬ ((i : Int) < 0) := by omega
          have c1 : (0 : Int) ≤ (i : Int) + 0 := by omega
          have c2 : ((i : Int) + 0) ≤ (rest.size : Int) := by omega
          have c3 : (0 : Int) ≤ (i : Int) + 1 := by omega
          have c4 : ((i : Int) + 1) ≤ (rest.size : Int) := by omega
          go_wp2_with fail
          refine (sIndex_any _ rest).mono ?_
          rintro e w1 ⟨rfl, rfl⟩
          rw [show slash rest = (i : Int) from hix]
          go_wp2_with fail
          go_roundg (N - 1 - (done.length + 1))
          case measure => omega
          case rel =>
            refine ⟨done ++ [rest.extract 0 (i + 0)], rest.extract (i + 1) rest.size, rfl, by simp, by simp; omega, by simp, by rw [ByteArray.size_extract]; omega, by rw [← Lib.cellsOf_set (by omega)]; rfl, ?_⟩
            rw [← unhide HS, show N - 1 - done.length = (N - 1 - (done.length + 1)) + 1 by omega, Lib.splitB_hit _ 0 _ rest i hix]
            simp
            rfl
      · have hltz : ¬ (((done.length : Nat) : Int) < (N : Int) - 1) := by omega
        go_wp2_with fail
        go_ret
        obtain ⟨f1, f2⟩ := fin (by rw [show N - 1 - done.length = 0 by omega]; rfl)
        rw [f1, ← f2]
        exact ⟨by first | rfl | (congr 2 <;> omega), rfl⟩

theorem SplitN_any (w : World) (s : ByteArray) (hs : s.size ≤ 4611686018427387904) : Calls Tryd.prog 58 #[.string s, .string ⟨#[47]⟩, .int .i64 5] w fun e w' =>
    e = .returned (.slice (some ⟨w.heap.size, 0, none⟩) (cut5 s).length (min 5 (s.size + 1))) ∧ w' = w.alloc (.cells (Lib.cellsOf (cut5 s) (min 5 (s.size + 1))) 9) := by
  go_enter Tryd.func58, Tryd.ntmps58
  go_wp2_with fail
  refine (genSplit_any _ s 5 rfl hs).mono ?_
  rintro e w1 ⟨rfl, rfl⟩
  go_wp2_with fail
  go_ret
  exact ⟨rfl, rfl⟩

theorem cut5_len (s : ByteArray) : (cut5 s).length ≤ min 5 (s.size + 1) := by
  have := Lib.splitB_length_le ⟨#[47]⟩ 0 (min 5 (s.size + 1) - 1) s
  unfold cut5
  omega
theorem splitB_sizes (sep : ByteArray) (M : Nat) : ∀ (k : Nat) (s : ByteArray), s.size ≤ M → ∀ x ∈ Lib.splitB sep 0 k s, x.size ≤ M
  | 0, s, h, x, hx => by simp [Lib.splitB] at hx; subst hx; exact h
  | k + 1, s, h, x, hx => by
    unfold Lib.splitB at hx
    split at hx
    · simp at hx; subst hx; exact h
    · rcases List.mem_cons.1 hx with rfl | hx
      · rw [ByteArray.size_extract]; omega
      · exact splitB_sizes sep M k _ (by rw [ByteArray.size_extract]; omega) x hx
theorem cellsOf_at {l : List ByteArray} {N k : Nat} {x : ByteArray} (h : l[k]? = some x) : (Lib.cellsOf l N)[k]? = some (.string x) := by
  have hk : k < l.length := by
    rcases Nat.lt_or_ge k l.length with h' | h'
    · exact h'
    · rw [List.getElem?_eq_none h'] at h; cases h
  unfold Lib.cellsOf
  rw [List.getElem?_toArray, List.getElem?_append_left (by simpa using hk), List.getElem?_map, h]
  rfl

set_option maxRecDepth 100000 in
set_option maxHeartbeats 3200000 in
theorem Valid_any (w : World) (s : ByteArray) (hs : s.size ≤ 4611686018427387904) : Calls Tryd.prog 34 #[.string s] w fun e w' => e = .returned (.bool (okPath s)) ∧ ∃ o, w' = w.alloc o := by
  have hl := cut5_len s
  have hsz : ∀ x ∈ cut5 s, x.size ≤ 4611686018427387904 := splitB_sizes _ _ _ s hs
  have HZ := hide hsz
  clear hsz
  obtain ⟨l, hl5⟩ : ∃ l, cut5 s = l := ⟨_, rfl⟩
  have hok : okPath s = (decide (l.length ≤ 4) && l.all okStep) := by rw [okPath, hl5]
  rw [hok]
  clear hok
  have hc := SplitN_any w s hs
  rw [hl5] at hc hl HZ
  clear hl5
  have hcap : min 5 (s.size + 1) ≤ 5 := by omega
  obtain ⟨N, hN⟩ : ∃ N, N = min 5 (s.size + 1) := ⟨_, rfl⟩
  rw [← hN] at hc hl hcap
  clear hN
  by_cases h4 : 4 < l.length
  · have e4 : (decide (l.length ≤ 4) && l.all okStep) = false := by
      have : decide (l.length ≤ 4) = false := by simp; omega
      rw [this]; rfl
    rw [e4]
    clear e4
    go_enter Tryd.func34, Tryd.ntmps34
    go_wp2_with fail
    refine hc.mono ?_
    clear hc
    rintro e w1 ⟨rfl, rfl⟩
    go_wp2_with fail
    go_ret
    exact ⟨rfl, _, rfl⟩
  · have e4 : (decide (l.length ≤ 4) && l.all okStep) = l.all okStep := by
      have : decide (l.length ≤ 4) = true := by simp; omega
      rw [this]; rfl
    rw [e4]
    clear e4
    go_enter Tryd.func34, Tryd.ntmps34
    go_wp2_with fail
    refine hc.mono ?_
    clear hc
    rintro e w1 ⟨rfl, rfl⟩
    go_wp2_with fail
    go_loopw [13] (fun i wr => wr = w.alloc (.cells (Lib.cellsOf l N) 9) ∧ ∃ k : Nat, k ≤ l.length ∧ i = .int .i64 k ∧ (l.take k).all okStep = true) (fun i _ => l.length - (intOf i).toNat)
    case atStart => exact ⟨rfl, 0, Nat.zero_le _, rfl, by simp⟩
    case round =>
      obtain ⟨rfl, k, hk, rfl, hall⟩ := hrel
      have HA := hide hall
      clear hall
      by_cases hlt : k < l.length
      · obtain ⟨x, hx⟩ : ∃ x, l[k]? = some x := ⟨_, List.getElem?_eq_getElem hlt⟩
        have i0 : (0 : Int) ≤ (k : Int) := Int.natCast_nonneg _
        have i1 : (k : Int) < (l.length : Int) := by omega
        have hc : (w.alloc (.cells (Lib.cellsOf l N) 9)).cell? ⟨w.heap.size, k, none⟩ = some (.string x) := by
          rw [cell_of_row _ _ _ _ _ _ (heap_alloc_new w _)]
          exact cellsOf_at hx
        have hxz := (unhide HZ) x (List.mem_of_getElem? hx)
        have HX := hide hx
        clear hx
        go_wp2_with fail
        refine (validStep_any _ x hxz).mono ?_
        rintro e w1 ⟨rfl, rfl⟩
        cases hb : okStep x
        · go_wp2_with fail
          go_ret
          refine ⟨?_, _, rfl⟩
          have : l.all okStep = false := by
            rw [List.all_eq_false]
            exact ⟨_, List.mem_of_getElem? (unhide HX), by rw [hb]; decide⟩
          rw [this]
          rfl
        · go_wp2_with fail
          go_roundw
          case rel =>
            refine ⟨by trivial, k + 1, by omega, by go_num, ?_⟩
            rw [List.take_add_one, unhide HX, List.all_append, unhide HA]
            simp [hb]
          case measure => simp [intOf]; omega
      · have : l.all okStep = true := by
          have h := unhide HA
          rw [List.take_of_length_le (by omega)] at h
          exact h
        go_wp2_with fail
        go_ret
        exact ⟨by rw [this]; rfl, _, rfl⟩
end Go.Proofs.YtcbindgpbeaebaaDoor

namespace Go.Proofs.YtcbindgpbeaebaaDoor
open Go.RowKit Go.Deep

/-- Where the last '/' of the first bytes stands, or -1. -/
def lastTo (s : ByteArray) : Nat → Int
  | 0 => -1
  | k + 1 => if s.toList[k]? = some 47 then (k : Int) else lastTo s k
theorem lastTo_range (s : ByteArray) : ∀ k, -1 ≤ lastTo s k ∧ lastTo s k < (k : Int)
  | 0 => by simp [lastTo]
  | k + 1 => by
    have := lastTo_range s k
    unfold lastTo
    split <;> omega

set_option maxRecDepth 100000 in
set_option maxHeartbeats 3200000 in
theorem baLast_any (w : World) (s : ByteArray) (hs : s.size ≤ 4611686018427387904) : Calls Tryd.prog 130 #[.string s, .int .u8 47] w fun e w' => e = .returned (.int .i64 (lastTo s s.size)) ∧ w' = w := by
  go_enter Tryd.func130, Tryd.ntmps130
  go_wp2_with fail
  go_loopw [5] (fun i wr => wr = w ∧ ∃ k : Nat, k ≤ s.size ∧ i = .int .i64 ((k : Int) - 1) ∧ lastTo s s.size = lastTo s k) (fun i _ => (intOf i + 1).toNat)
  case atStart => exact ⟨rfl, s.size, Nat.le_refl _, rfl, rfl⟩
  case round =>
    obtain ⟨rfl, k, hk, rfl, hL⟩ := hrel
    have HL := hide hL
    clear hL
    by_cases h0 : k = 0
    · subst h0
      go_wp2_with fail
      go_ret
      exact ⟨by rw [unhide HL]; rfl, rfl⟩
    · obtain ⟨j, rfl⟩ : ∃ j, k = j + 1 := ⟨k - 1, by omega⟩
      have hat := toList_at s j (by omega)
      have e1 : ((j + 1 : Nat) : Int) - 1 = (j : Int) := by omega
      rw [e1]
      have i0 : (0 : Int) ≤ (j : Int) := Int.natCast_nonneg _
      have i1 : (j : Int) < (s.size : Int) := by omega
      have hU : lastTo s (j + 1) = if s.toList[j]? = some 47 then (j : Int) else lastTo s j := by rw [lastTo]
      by_cases hb : s[j] = 47
      · have hb' : ((s[j].toNat : Int) == 47) = true := by simp [hb]
        have HU := hide (hU.trans (if_pos (by rw [hat, hb])))
        clear hU hat hb
        go_wp2_with fail
        go_ret
        exact ⟨by rw [unhide HL, unhide HU]; rfl, rfl⟩
      · have hb' : ((s[j].toNat : Int) == 47) = false := by
          simp
          intro h
          exact hb (UInt8.toNat_inj.1 (by simpa using (by omega : s[j].toNat = 47)))
        have HU := hide (hU.trans (if_neg (by rw [hat]; simpa using hb)))
        clear hU hat hb
        go_wp2_with fail
        go_roundw
        case rel => exact ⟨by trivial, j, by omega, by go_num, by rw [unhide HL, unhide HU]⟩
        case measure => first | (simp [intOf]; done) | (simp [intOf]; omega)

/-- The parent of a path. -/
def parentB (s : ByteArray) : ByteArray := s.extract 0 (lastTo s s.size).toNat
theorem Parent_any (w : World) (s : ByteArray) (hs : s.size ≤ 4611686018427387904) : Calls Tryd.prog 86 #[.string s] w fun e w' => e = .returned (.string (parentB s)) ∧ w' = w := by
  have hl : Calls Tryd.prog 112 #[.string s, .int .u8 47] w fun e w' => e = .returned (.int .i64 (lastTo s s.size)) ∧ w' = w := by
    go_enter Tryd.func112, Tryd.ntmps112
    go_wp2_with fail
    refine (baLast_any w s hs).mono ?_
    rintro e w1 ⟨rfl, rfl⟩
    go_wp2_with fail
    go_ret
    exact ⟨rfl, rfl⟩
  have hr := lastTo_range s s.size
  have hP : parentB s = s.extract 0 (lastTo s s.size).toNat := rfl
  obtain ⟨L, hL⟩ : ∃ L, L = lastTo s s.size := ⟨_, rfl⟩
  rw [← hL] at hl hr hP
  rw [hP]
  clear hL hP
  by_cases h0 : L < 0
  · have e1 : L = -1 := by omega
    subst e1
    go_enter Tryd.func86, Tryd.ntmps86
    go_wp2_with fail
    refine hl.mono ?_
    rintro e w1 ⟨rfl, rfl⟩
    go_wp2_with fail
    go_ret
    exact ⟨by simp, rfl⟩
  · obtain ⟨k, rfl⟩ := Int.eq_ofNat_of_zero_le (Int.not_lt.1 h0)
    have hk : (k : Int) ≤ (s.size : Int) := by omega
    go_enter Tryd.func86, Tryd.ntmps86
    go_wp2_with fail
    refine hl.mono ?_
    rintro e w1 ⟨rfl, rfl⟩
    go_wp2_with fail
    all_goals
      go_ret
      refine ⟨?_, rfl⟩
      first
        | rfl
        | (have hk0 : k = 0 := by omega
           subst hk0
           simp)

/-- Does a text begin so? -/
def preB (s p : ByteArray) : Bool := decide (p.size ≤ s.size) && ((s.extract 0 p.size).toList == p.toList)
theorem slHasPrefix_any (w : World) (s p : ByteArray) : Calls Tryd.prog 133 #[.string s, .string p] w fun e w' => e = .returned (.bool (preB s p)) ∧ w' = w := by
  by_cases h : p.size ≤ s.size
  · have h1 : (p.size : Int) ≤ (s.size : Int) := by omega
    have HP := hide (show preB s p = ((s.extract 0 p.size).toList == p.toList) by unfold preB; rw [decide_eq_true h]; rfl)
    go_enter Tryd.func133, Tryd.ntmps133
    go_wp2_with fail
    go_ret
    exact ⟨by rw [unhide HP]; rfl, rfl⟩
  · have h1 : ¬ ((p.size : Int) ≤ (s.size : Int)) := by omega
    have HP := hide (show preB s p = false by unfold preB; rw [decide_eq_false h]; rfl)
    go_enter Tryd.func133, Tryd.ntmps133
    go_wp2_with fail
    go_ret
    exact ⟨by rw [unhide HP]; rfl, rfl⟩
theorem HasPrefix_any (w : World) (s p : ByteArray) : Calls Tryd.prog 118 #[.string s, .string p] w fun e w' => e = .returned (.bool (preB s p)) ∧ w' = w := by
  go_enter Tryd.func118, Tryd.ntmps118
  go_wp2_with fail
  refine (slHasPrefix_any w s p).mono ?_
  rintro e w1 ⟨rfl, rfl⟩
  go_wp2_with fail
  go_ret
  exact ⟨rfl, rfl⟩
/-- Is a path below another? -/
def belowB (s top : ByteArray) : Bool := preB s (top ++ ⟨#[47]⟩)
theorem IsBelow_any (w : World) (s top : ByteArray) (ht : top.size ≤ 4611686018427387904) : Calls Tryd.prog 99 #[.string s, .string top] w fun e w' => e = .returned (.bool (belowB s top)) ∧ w' = w := by
  have hc := HasPrefix_any w s (top ++ ⟨#[47]⟩)
  have n1 : ¬ (9223372036854775807 < top.size + 1) := by omega
  go_enter Tryd.func99, Tryd.ntmps99
  go_wp2_with fail
  refine hc.mono ?_
  rintro e w1 ⟨rfl, rfl⟩
  go_wp2_with fail
  go_ret
  exact ⟨rfl, rfl⟩
end Go.Proofs.YtcbindgpbeaebaaDoor
