import Derived.Test.YtcbindgpbeaebaaGreatDoorRefE
import Derived.Test.YtcbindgpbeaebaaGreatDoorRefC
namespace Go.Proofs.YtcbindgpbeaebaaGreatDoor
open Go.RowKit Go.Deep

/-- How far gauzeref.IsPath has come: byte k, the step that it is at begins at fr, so many steps are done. -/
def PathAt (l : List UInt8) (k fr many : Nat) : Prop :=
  ∃ done : List (List UInt8), done.length = many ∧ (∀ x ∈ done, okStep ⟨x.toArray⟩ = true) ∧
    ((k ≤ l.length ∧ fr ≤ k ∧ parts l = done ++ parts (l.drop fr) ∧ ∀ b ∈ (l.drop fr).take (k - fr), b ≠ 47) ∨ (k = l.length + 1 ∧ parts l = done))
theorem PathAt.start (l : List UInt8) : PathAt l 0 0 0 := ⟨[], rfl, by simp, .inl ⟨Nat.zero_le _, Nat.le_refl _, rfl, by simp⟩⟩
theorem PathAt.many {l : List UInt8} {k fr many : Nat} (h : PathAt l k fr many) : many ≤ l.length + 1 := by
  obtain ⟨done, h1, _, ⟨_, _, h3, _⟩ | ⟨_, h3⟩⟩ := h
  · have := parts_len l
    rw [h3, List.length_append] at this
    omega
  · have := parts_len l
    rw [h3] at this
    omega
theorem PathAt.le {l : List UInt8} {k fr many : Nat} (h : PathAt l k fr many) (hk : k ≤ l.length) : fr ≤ k := by
  obtain ⟨_, _, _, ⟨_, h2, _⟩ | ⟨h2, _⟩⟩ := h
  · exact h2
  · omega
theorem PathAt.skip {l : List UInt8} {k fr many : Nat} (h : PathAt l k fr many) {b : UInt8} (hk : l[k]? = some b) (hb : b ≠ 47) : PathAt l (k + 1) fr many := by
  have hlt := (List.getElem?_eq_some_iff.1 hk).1
  obtain ⟨done, h1, h2, ⟨h3, h4, h5, h6⟩ | ⟨h3, _⟩⟩ := h
  · refine ⟨done, h1, h2, .inl ⟨by omega, by omega, h5, fun c hc => ?_⟩⟩
    rw [show k + 1 - fr = k - fr + 1 by omega, List.take_add_one, List.mem_append] at hc
    rcases hc with hc | hc
    · exact h6 c hc
    · rw [List.getElem?_drop, show fr + (k - fr) = k by omega, hk] at hc
      simp at hc
      rw [hc]; exact hb
  · omega
/-- The steps behind a 47. -/
theorem PathAt.split {l : List UInt8} {k fr : Nat} (hf : fr ≤ k) (hk : l[k]? = some 47) (h6 : ∀ b ∈ (l.drop fr).take (k - fr), b ≠ 47) : parts (l.drop fr) = (l.drop fr).take (k - fr) :: parts (l.drop (k + 1)) := by
  have hlt := (List.getElem?_eq_some_iff.1 hk).1
  have e : l.drop fr = (l.drop fr).take (k - fr) ++ 47 :: l.drop (k + 1) := by
    conv => lhs; rw [← List.take_append_drop (k - fr) (l.drop fr)]
    rw [List.drop_drop, show fr + (k - fr) = k by omega, List.drop_eq_getElem_cons hlt, (List.getElem?_eq_some_iff.1 hk).2]
  conv => lhs; rw [e]
  exact parts_at _ _ h6
theorem PathAt.cut {l : List UInt8} {k fr many : Nat} (h : PathAt l k fr many) (hk : l[k]? = some 47) (hs : okStep ⟨((l.drop fr).take (k - fr)).toArray⟩ = true) : PathAt l (k + 1) (k + 1) (many + 1) := by
  have hlt := (List.getElem?_eq_some_iff.1 hk).1
  obtain ⟨done, h1, h2, ⟨h3, h4, h5, h6⟩ | ⟨h3, _⟩⟩ := h
  · refine ⟨done ++ [(l.drop fr).take (k - fr)], by simp [h1], fun x hx => ?_, .inl ⟨by omega, Nat.le_refl _, ?_, by simp⟩⟩
    · rcases List.mem_append.1 hx with hx | hx
      · exact h2 x hx
      · simp at hx; rw [hx]; exact hs
    · rw [h5, PathAt.split h4 hk h6]; simp
  · omega
theorem PathAt.last {l : List UInt8} {fr many : Nat} (h : PathAt l l.length fr many) (hs : okStep ⟨((l.drop fr).take (l.length - fr)).toArray⟩ = true) : PathAt l (l.length + 1) (l.length + 1) (many + 1) := by
  obtain ⟨done, h1, h2, ⟨h3, h4, h5, h6⟩ | ⟨h3, _⟩⟩ := h
  · have e : (l.drop fr).take (l.length - fr) = l.drop fr := List.take_of_length_le (by rw [List.length_drop]; omega)
    rw [e] at h6 hs
    refine ⟨done ++ [l.drop fr], by simp [h1], fun x hx => ?_, .inr ⟨rfl, ?_⟩⟩
    · rcases List.mem_append.1 hx with hx | hx
      · exact h2 x hx
      · simp at hx; rw [hx]; exact hs
    · rw [h5, parts_none _ h6]
  · omega
theorem PathAt.bad {s : ByteArray} {k fr many : Nat} (h : PathAt s.data.toList k fr many) (hk : s.data.toList[k]? = some 47 ∨ k = s.data.toList.length) (hs : okStep ⟨((s.data.toList.drop fr).take (k - fr)).toArray⟩ = false) : okPath s = false := by
  rw [okPath_parts]
  have hin : (s.data.toList.drop fr).take (k - fr) ∈ parts s.data.toList := by
    obtain ⟨done, h1, h2, ⟨h3, h4, h5, h6⟩ | ⟨h3, _⟩⟩ := h
    · rcases hk with hk | hk
      · rw [h5, PathAt.split h4 hk h6]; simp
      · have e : (s.data.toList.drop fr).take (k - fr) = s.data.toList.drop fr := List.take_of_length_le (by rw [List.length_drop]; omega)
        rw [e] at h6 ⊢
        rw [h5, parts_none _ h6]; simp
    · rcases hk with hk | hk
      · have := (List.getElem?_eq_some_iff.1 hk).1; omega
      · omega
  have : ((parts s.data.toList).all fun l => okStep ⟨l.toArray⟩) = false := by
    rw [List.all_eq_false]
    exact ⟨_, hin, by rw [hs]; decide⟩
  rw [this, Bool.and_false]
theorem PathAt.stop {s : ByteArray} {fr many : Nat} (h : PathAt s.data.toList (s.data.toList.length + 1) fr many) : okPath s = decide (many ≤ 4) := by
  obtain ⟨done, h1, h2, ⟨h3, _⟩ | ⟨_, h3⟩⟩ := h
  · omega
  · have : ((parts s.data.toList).all fun l => okStep ⟨l.toArray⟩) = true := by
      rw [h3]; exact List.all_eq_true.2 h2
    rw [okPath_parts, this, Bool.and_true, h3, h1]
/-- A text by the document: it is a path's step, or what is below. -/
theorem hitN_eq (q : ByteArray) (n : Nd) : hitN q n = ((n.path.toList == q.toList) || (decide (q.size < n.path.size) && ((n.path.extract 0 q.size).toList == q.toList) && (n.path.toList[q.size]? == some 47))) := by
  unfold hitN belowB preB
  congr 1
  have hq : (q ++ (⟨#[47]⟩ : ByteArray)).size = q.size + 1 := by rw [ByteArray.size_append]; rfl
  have hql : (q ++ (⟨#[47]⟩ : ByteArray)).toList = q.toList ++ [47] := by
    rw [Lib.toList_data, Lib.toList_data, ByteArray.data_append, Array.toList_append]
  rw [hq, hql]
  by_cases h : q.size < n.path.size
  · rw [decide_eq_true h, decide_eq_true (by omega), Bool.true_and, Bool.true_and]
    have e1 : (n.path.extract 0 (q.size + 1)).toList = (n.path.extract 0 q.size).toList ++ [n.path[q.size]] := by
      rw [Lib.toList_data, Lib.toList_data, Lib.extract_data, Lib.extract_data]
      simp only [Nat.sub_zero, List.drop_zero]
      rw [List.take_add_one]
      congr 1
      have := toList_at n.path q.size h
      rw [Lib.toList_data] at this
      rw [this]; rfl
    rw [e1, toList_at n.path q.size h]
    have e2 : (n.path.extract 0 q.size).toList.length = q.toList.length := by
      rw [Lib.toList_data, Lib.toList_data, ← Lib.size_eq, ← Lib.size_eq, ByteArray.size_extract]; omega
    rw [Bool.eq_iff_iff]
    simp only [beq_iff_eq, Bool.and_eq_true, Option.some.injEq]
    constructor
    · intro h
      have := List.append_inj h e2
      exact ⟨this.1, by simpa using this.2⟩
    · rintro ⟨a, b⟩; rw [a, b]
  · rw [decide_eq_false h, decide_eq_false (by omega)]; rfl
/-- 'find', by the place. -/
def findI (l : List Nd) (q : ByteArray) : Int := match l.findIdx? (fun n => n.path.toList == q.toList) with
  | some i => (i : Int)
  | none => -1
theorem cmpB_beq (a b : ByteArray) : (cmpB a b == 0) = (a.toList == b.toList) := by
  rw [Bool.eq_iff_iff, beq_iff_eq, beq_iff_eq]
  constructor
  · intro h; rw [cmpB_zero h]
  · intro h
    have : a = b := bytes_ext (by rw [← Lib.toList_data, ← Lib.toList_data]; exact h)
    rw [this]; exact cmpB_self b
theorem findN_fun (q : ByteArray) : (fun n : Nd => cmpB n.path q == 0) = fun n => n.path.toList == q.toList := by
  funext n; exact cmpB_beq _ _
theorem findI_none {l : List Nd} {q : ByteArray} (h : ∀ n ∈ l, (n.path.toList == q.toList) = false) : findI l q = -1 ∧ findN l q = none := by
  constructor
  · unfold findI
    have : l.findIdx? (fun n => n.path.toList == q.toList) = none := by
      rw [List.findIdx?_eq_none_iff]; exact h
    rw [this]
  · unfold findN
    rw [findN_fun, List.find?_eq_none]
    intro n hn
    rw [h n hn]; decide
theorem findI_some {l : List Nd} {q : ByteArray} {i : Nat} {n : Nd} (hi : l[i]? = some n) (hn : (n.path.toList == q.toList) = true) (hb : ∀ j m, j < i → l[j]? = some m → (m.path.toList == q.toList) = false) : findI l q = (i : Int) ∧ findN l q = some n := by
  have hl := (List.getElem?_eq_some_iff.1 hi)
  obtain ⟨hl, e⟩ := hl
  have e1 : l.findIdx? (fun n => n.path.toList == q.toList) = some i := by
    rw [List.findIdx?_eq_some_iff_getElem]
    exact ⟨hl, by rw [e]; exact hn, fun j hj => by rw [hb j _ hj (List.getElem?_eq_getElem (by omega))]; decide⟩
  constructor
  · unfold findI; rw [e1]
  · unfold findN
    rw [findN_fun, List.find?_eq_some_iff_getElem]
    exact ⟨hn, i, hl, e, fun j hj => by rw [hb j _ hj (List.getElem?_eq_getElem (by omega))]; decide⟩
theorem findI_cases (l : List Nd) (q : ByteArray) : (findI l q = -1 ∧ findN l q = none) ∨ ∃ (i : Nat) (n : Nd), findI l q = (i : Int) ∧ findN l q = some n ∧ l[i]? = some n ∧ i < l.length := by
  cases h : l.findIdx? (fun n => n.path.toList == q.toList) with
  | none =>
    rw [List.findIdx?_eq_none_iff] at h
    exact .inl (findI_none h)
  | some i =>
    rw [List.findIdx?_eq_some_iff_getElem] at h
    obtain ⟨hl, h1, h2⟩ := h
    have := findI_some (q := q) (List.getElem?_eq_getElem hl) h1 fun j m hj hm => by
      have h3 := h2 j hj
      rw [List.getElem?_eq_getElem (by omega)] at hm
      cases hm
      simpa using h3
    exact .inr ⟨i, l[i], this.1, this.2, List.getElem?_eq_getElem hl, hl⟩
/-- Nodes in the order of their paths. -/
def OrdN (l : List Nd) : Prop := l.Pairwise fun a b => cmpB a.path b.path < 0
theorem Ord.nodes {M : List Pl} (h : Ord M) : OrdN (nodesOf M) := by
  unfold OrdN nodesOf
  rw [List.pairwise_map]
  exact h
/-- Where a path belongs. -/
def atN : List Nd → ByteArray → Nat
  | [], _ => 0
  | y :: r, p => if cmpB y.path p < 0 then atN r p + 1 else 0
theorem atN_le : ∀ (l : List Nd) (p : ByteArray), atN l p ≤ l.length
  | [], _ => Nat.le_refl _
  | y :: r, p => by
    have := atN_le r p
    unfold atN
    split
    · simp; omega
    · simp
theorem atN_is : ∀ (l : List Nd) (p : ByteArray) (k : Nat), (∀ j n, j < k → l[j]? = some n → cmpB n.path p < 0) → k ≤ l.length → (∀ n, l[k]? = some n → ¬ cmpB n.path p < 0) → atN l p = k
  | [], _, k, _, hk, _ => by simp at hk; rw [hk]; rfl
  | y :: r, p, 0, _, _, h2 => by
    unfold atN
    rw [if_neg (h2 y (by simp))]
  | y :: r, p, k + 1, h1, hk, h2 => by
    unfold atN
    rw [if_pos (h1 0 y (by omega) (by simp)), atN_is r p k (fun j n hj hn => h1 (j + 1) n (by omega) (by simpa using hn)) (by simpa using hk) (fun n hn => h2 n (by simpa using hn))]
theorem insN_at : ∀ (l : List Nd) (n : Nd), OrdN l → insN l n = l.take (atN l n.path) ++ n :: l.drop (atN l n.path + if findN l n.path = none then 0 else 1)
  | [], n, _ => by simp [insN, atN]
  | y :: r, n, h => by
    have ih := insN_at r n (List.Pairwise.of_cons h)
    unfold insN atN
    by_cases h1 : cmpB y.path n.path < 0
    · have h0 : (cmpB y.path n.path == 0) = false := by simp; omega
      rw [if_pos h1, if_pos h1, ih]
      have e : findN (y :: r) n.path = findN r n.path := by unfold findN; rw [List.find?_cons, h0]
      rw [e, List.take_succ_cons, List.cons_append, show atN r n.path + 1 + (if findN r n.path = none then 0 else 1) = atN r n.path + (if findN r n.path = none then 0 else 1) + 1 by omega, List.drop_succ_cons]
    · rw [if_neg h1, if_neg h1]
      by_cases h2 : cmpB y.path n.path = 0
      · have e : findN (y :: r) n.path = some y := by unfold findN; rw [List.find?_cons, h2]; rfl
        rw [if_pos h2, e]; simp
      · have e : findN (y :: r) n.path = none := by
          unfold findN
          rw [List.find?_eq_none]
          intro z hz
          rcases List.mem_cons.1 hz with rfl | hz
          · simpa using h2
          · have h3 := List.rel_of_pairwise_cons h hz
            have h4 : cmpB n.path y.path < 0 := by rw [cmpB_swap]; omega
            have h5 := cmpB_trans h4 h3
            rw [cmpB_swap] at h5
            simp; omega
        rw [if_neg h2, e]; simp
end Go.Proofs.YtcbindgpbeaebaaGreatDoor

namespace Go.Proofs.YtcbindgpbeaebaaGreatDoor
open Go.RowKit Go.Deep
attribute [local go_sem ↓] Go.wp_at_zero Go.wp_at_succ

set_option maxRecDepth 100000 in
set_option maxHeartbeats 3200000 in
theorem isStep_any (w : World) (s : ByteArray) (hs : s.size ≤ 4611686018427387904) : Calls Tryz.prog 123 #[.string s] w fun e w' => e = .returned (.bool (okStep s)) ∧ w' = w := by
  have hlen : s.toList.length = s.size := by rw [Lib.toList_data]; exact (Lib.size_eq s).symm
  go_enter Tryz.func123, Tryz.ntmps123
  go_wp2_with fail
  go_loopw [3] (fun i wr => wr = w ∧ ∃ k : Nat, k ≤ s.size ∧ i = .int .i64 k ∧ (s.toList.take k).all (fun b => okB (b.toNat : Int)) = true) (fun i _ => s.size - (intOf i).toNat)
  case atStart => exact ⟨rfl, 0, Nat.zero_le _, rfl, by simp⟩
  case round =>
    obtain ⟨rfl, k, hk, rfl, hall⟩ := hrel
    have HA := hide hall
    clear hall
    by_cases hlt : k < s.size
    · have i0 : (0 : Int) ≤ (k : Int) := Int.natCast_nonneg _
      have i1 : (k : Int) < (s.size : Int) := by omega
      have hat := toList_at s k hlt
      have hin : s[k] ∈ s.toList := List.mem_of_getElem? hat
      have hno : okB (s[k].toNat : Int) = false → okStep s = false := fun h => by
        have : (s.toList.all fun b => okB (b.toNat : Int)) = false := by
          rw [List.all_eq_false]
          exact ⟨_, hin, by rw [h]; decide⟩
        unfold okStep
        rw [this, Bool.and_false]
      have hyes : okB (s[k].toNat : Int) = true → (s.toList.take (k + 1)).all (fun b => okB (b.toNat : Int)) = true := fun h => by
        rw [List.take_add_one, hat, List.all_append, unhide HA]
        simp [h]
      have HNO := hide hno
      have HYES := hide hyes
      clear hno hyes hat hin HA
      go_wp2
      all_goals first
        | (go_ret
           refine ⟨?_, rfl⟩
           have hb : okB (s[k].toNat : Int) = false := by
             simp_all [okB] <;> omega
           rw [(unhide HNO) hb]
           rfl)
        | (go_roundw
           case rel =>
             refine ⟨by trivial, k + 1, by omega, by go_num, (unhide HYES) ?_⟩
             simp_all [okB] <;> omega
           case measure => simp [intOf]; omega)
    · have hk' : k = s.size := by omega
      subst hk'
      have hal : (s.toList.all fun b => okB (b.toNat : Int)) = true := by
        have h := unhide HA
        rw [← hlen, List.take_length] at h
        exact h
      have e0 : okStep s = (decide (1 ≤ s.size) && decide (s.size ≤ 8) && !(s.toList == [46]) && !(s.toList == [46, 46])) := by unfold okStep; rw [hal, Bool.and_true]
      have HE := hide e0
      clear e0 hal HA hlen
      by_cases h1 : 1 ≤ s.size
      · by_cases h8 : s.size ≤ 8
        · cases hd : s.toList == [46]
          · cases hdd : s.toList == [46, 46]
            · go_wp2
              go_ret
              exact ⟨by rw [unhide HE]; simp [h1, h8, hd, hdd], rfl⟩
            · go_wp2
              go_ret
              exact ⟨by rw [unhide HE]; simp [hd, hdd], rfl⟩
          · go_wp2
            go_ret
            exact ⟨by rw [unhide HE]; simp [hd], rfl⟩
        · go_wp2
          go_ret
          exact ⟨by rw [unhide HE]; simp [h8], rfl⟩
      · go_wp2
        go_ret
        exact ⟨by rw [unhide HE]; simp [h1], rfl⟩

set_option maxRecDepth 100000 in
set_option maxHeartbeats 3200000 in
theorem rParent_any (w : World) (s : ByteArray) (hs : s.size ≤ 4611686018427387904) : Calls Tryz.prog 161 #[.string s] w fun e w' => e = .returned (.string (parentB s)) ∧ w' = w := by
  have hr := lastTo_range s s.size
  go_enter Tryz.func161, Tryz.ntmps161
  go_wp2_with fail
  go_loopw [3] (fun i wr => wr = w ∧ ∃ k : Nat, k ≤ s.size ∧ i = .int .i64 ((k : Int) - 1) ∧ lastTo s s.size = lastTo s k) (fun i _ => (intOf i + 1).toNat)
  case atStart => exact ⟨rfl, s.size, Nat.le_refl _, rfl, rfl⟩
  case round =>
    obtain ⟨rfl, k, hk, rfl, hL⟩ := hrel
    have HL := hide hL
    clear hL
    by_cases h0 : k = 0
    · subst h0
      have HE := hide (show parentB s = ⟨#[]⟩ by
        unfold parentB
        rw [unhide HL]
        apply bytes_ext
        rw [Lib.extract_data]
        simp [lastTo])
      go_wp2_with fail
      go_ret
      exact ⟨by rw [unhide HE]; rfl, rfl⟩
    · obtain ⟨j, rfl⟩ : ∃ j, k = j + 1 := ⟨k - 1, by omega⟩
      have hat := toList_at s j (by omega)
      have e1 : ((j + 1 : Nat) : Int) - 1 = (j : Int) := by omega
      rw [e1]
      have i0 : (0 : Int) ≤ (j : Int) := Int.natCast_nonneg _
      have i1 : (j : Int) < (s.size : Int) := by omega
      have i2 : (j : Int) ≤ (s.size : Int) := by omega
      have hU : lastTo s (j + 1) = if s.toList[j]? = some 47 then (j : Int) else lastTo s j := by rw [lastTo]
      by_cases hb : s[j] = 47
      · have hb' : ((s[j].toNat : Int) == 47) = true := by simp [hb]
        have hp : parentB s = s.extract 0 j := by
          unfold parentB
          rw [unhide HL, hU, if_pos (by rw [hat, hb])]
          rfl
        have HP := hide hp
        clear hU hat hb hp
        go_wp2_with fail
        go_ret
        exact ⟨by rw [unhide HP]; rfl, rfl⟩
      · have hb' : ((s[j].toNat : Int) == 47) = false := by
          simp
          intro h
          exact hb (UInt8.toNat_inj.1 (by simpa using (by omega : s[j].toNat = 47)))
        have HU := hide (hU.trans (if_neg (by rw [hat]; simpa using hb)))
        clear hU hat hb
        go_wp2_with fail
        go_roundw
        case rel => exact ⟨by trivial, j, by omega, by go_num, by rw [unhide HL, unhide HU]⟩
        case measure => first | (simp [intOf]; done) | (simp [intOf]; omega)

set_option maxRecDepth 100000 in
set_option maxHeartbeats 3200000 in
theorem below_any (w : World) (n : Nd) (q : ByteArray) : Calls Tryz.prog 160 #[.string n.path, .string q] w fun e w' => e = .returned (.bool (hitN q n)) ∧ w' = w := by
  have HE := hide (hitN_eq q n)
  cases h1 : n.path.toList == q.toList
  · by_cases h2 : q.size < n.path.size
    · have h2' : (q.size : Int) < (n.path.size : Int) := by omega
      have h3' : (q.size : Int) ≤ (n.path.size : Int) := by omega
      have h0 : (0 : Int) ≤ (q.size : Int) := by omega
      have hat := toList_at n.path q.size h2
      cases h3 : (n.path.extract 0 q.size).toList == q.toList
      · go_enter Tryz.func160, Tryz.ntmps160
        go_wp2_with fail
        go_ret
        exact ⟨by rw [unhide HE, h1, h3]; simp, rfl⟩
      · have e4 : (n.path.toList[q.size]? == some 47) = ((n.path[q.size].toNat : Int) == 47) := by
          rw [hat, Bool.eq_iff_iff]
          simp only [beq_iff_eq, Option.some.injEq]
          constructor
          · intro h; rw [h]; rfl
          · intro h; exact UInt8.toNat_inj.1 (by simpa using (by omega : n.path[q.size].toNat = 47))
        have H4 := hide e4
        clear e4 hat
        go_enter Tryz.func160, Tryz.ntmps160
        go_wp2_with fail
        go_ret
        refine ⟨?_, rfl⟩
        rw [unhide HE, h1, h3, decide_eq_true h2, unhide H4]
        rfl
    · have h2' : ¬ ((q.size : Int) < (n.path.size : Int)) := by omega
      go_enter Tryz.func160, Tryz.ntmps160
      go_wp2_with fail
      go_ret
      exact ⟨by rw [unhide HE, h1, decide_eq_false h2]; rfl, rfl⟩
  · go_enter Tryz.func160, Tryz.ntmps160
    go_wp2_with fail
    go_ret
    exact ⟨by rw [unhide HE, h1]; rfl, rfl⟩
end Go.Proofs.YtcbindgpbeaebaaGreatDoor

namespace Go.Proofs.YtcbindgpbeaebaaGreatDoor
open Go.RowKit Go.Deep
attribute [local go_sem ↓] Go.wp_at_zero Go.wp_at_succ

set_option maxRecDepth 100000 in
set_option maxHeartbeats 3200000 in
theorem IsPath_any (w : World) (s : ByteArray) (hs : s.size ≤ 4611686018427387903) : Calls Tryz.prog 85 #[.string s] w fun e w' => e = .returned (.bool (okPath s)) ∧ w' = w := by
  have hlen : s.data.toList.length = s.size := (Lib.size_eq s).symm
  go_enter Tryz.func85, Tryz.ntmps85
  go_wp2_with fail
  go_loopw [3, 4, 5] (fun f m i wr => wr = w ∧ ∃ fr many k : Nat, k ≤ s.size + 1 ∧ f = .int .i64 fr ∧ m = .int .i64 many ∧ i = .int .i64 k ∧ PathAt s.data.toList k fr many) (fun _ _ i _ => s.size + 1 - (intOf i).toNat)
  case atStart => exact ⟨rfl, 0, 0, 0, Nat.zero_le _, rfl, rfl, rfl, PathAt.start _⟩
  case round =>
    obtain ⟨rfl, fr, many, k, hk, rfl, rfl, rfl, hP⟩ := hrel
    have hm := hP.many
    rw [hlen] at hm
    by_cases hle : k ≤ s.size
    · have hfr := hP.le (by rw [hlen]; exact hle)
      have i0 : (0 : Int) ≤ (k : Int) := Int.natCast_nonneg _
      have f0 : (0 : Int) ≤ (fr : Int) := Int.natCast_nonneg _
      have f1 : (fr : Int) ≤ (k : Int) := by omega
      have f2 : (k : Int) ≤ (s.size : Int) := by omega
      have ex : (s.extract fr k).data.toList = (s.data.toList.drop fr).take (k - fr) := Lib.extract_data _ _ _
      have exs : (s.extract fr k).size ≤ 4611686018427387904 := by rw [ByteArray.size_extract]; omega
      have exb : okStep (s.extract fr k) = okStep ⟨((s.data.toList.drop fr).take (k - fr)).toArray⟩ := by
        rw [← ex]
      have HC := hide (isStep_any wr (s.extract fr k) exs)
      have HP := hide hP
      clear hP
      have piece : (s.data.toList[k]? = some 47 ∨ k = s.data.toList.length) → (okStep (s.extract fr k) = false → okPath s = false) ∧ (okStep (s.extract fr k) = true → PathAt s.data.toList (k + 1) (k + 1) (many + 1)) := fun hk => by
        rw [exb]
        refine ⟨fun h => (unhide HP).bad hk h, fun h => ?_⟩
        rcases hk with hk | hk
        · exact (unhide HP).cut hk h
        · have h2 := unhide HP
          subst hk
          exact h2.last h
      have HPC := hide piece
      clear piece ex exb
      by_cases hlt : k < s.size
      · have i1 : (k : Int) < (s.size : Int) := by omega
        have hat : s.data.toList[k]? = some s[k] := by rw [← Lib.toList_data]; exact toList_at s k hlt
        by_cases h47 : s[k] = 47
        · have hb : ((s[k].toNat : Int) != 47) = false := by simp [h47]
          obtain ⟨p1, p2⟩ := (unhide HPC) (.inl (by rw [hat, h47]))
          have HP1 := hide p1
          have HP2 := hide p2
          clear p1 p2 hat h47
          cases hst : okStep (s.extract fr k)
          · have HST := hide hst
            clear hst
            go_wp2_with fail
            refine (unhide HC).mono ?_
            rintro e w1 ⟨rfl, rfl⟩
            rw [unhide HST]
            go_wp2_with fail
            go_ret
            exact ⟨by rw [(unhide HP1) (unhide HST)]; rfl, rfl⟩
          · have HST := hide hst
            clear hst
            go_wp2_with fail
            refine (unhide HC).mono ?_
            rintro e w1 ⟨rfl, rfl⟩
            rw [unhide HST]
            go_wp2_with fail
            go_roundw
            case rel => exact ⟨by trivial, k + 1, many + 1, k + 1, by omega, by go_num, by go_num, by go_num, (unhide HP2) (unhide HST)⟩
            case measure => simp [intOf]; omega
        · have hb : ((s[k].toNat : Int) != 47) = true := by
            simp
            intro h
            exact h47 (UInt8.toNat_inj.1 (by simpa using (by omega : s[k].toNat = 47)))
          have HN := hide ((unhide HP).skip hat h47)
          clear hat h47
          go_wp2_with fail
          go_roundw
          case rel => exact ⟨by trivial, fr, many, k + 1, by omega, rfl, rfl, by go_num, unhide HN⟩
          case measure => simp [intOf]; omega
      · have hks : k = s.size := by omega
        obtain ⟨p1, p2⟩ := (unhide HPC) (.inr (by rw [hlen]; exact hks))
        have HP1 := hide p1
        have HP2 := hide p2
        clear p1 p2
        have i1 : ¬ ((k : Int) < (s.size : Int)) := by omega
        have hk1 : k + 1 ≤ s.size + 1 := by omega
        clear hks hlt
        cases hst : okStep (s.extract fr k)
        · have HST := hide hst
          clear hst
          go_wp2_with fail
          refine (unhide HC).mono ?_
          rintro e w1 ⟨rfl, rfl⟩
          rw [unhide HST]
          go_wp2_with fail
          go_ret
          exact ⟨by rw [(unhide HP1) (unhide HST)]; rfl, rfl⟩
        · have HST := hide hst
          clear hst
          go_wp2_with fail
          refine (unhide HC).mono ?_
          rintro e w1 ⟨rfl, rfl⟩
          rw [unhide HST]
          go_wp2_with fail
          go_roundw
          case rel => exact ⟨by trivial, k + 1, many + 1, k + 1, by omega, by go_num, by go_num, by go_num, (unhide HP2) (unhide HST)⟩
          case measure => simp [intOf]; omega
    · have hks : k = s.size + 1 := by omega
      subst hks
      have hP' : PathAt s.data.toList (s.data.toList.length + 1) fr many := by rw [hlen]; exact hP
      have HE := hide hP'.stop
      clear hP hP'
      have i1 : ¬ (((s.size + 1 : Nat) : Int) ≤ (s.size : Int)) := by omega
      go_wp2_with fail
      go_ret
      refine ⟨?_, rfl⟩
      have hd : decide ((many : Int) ≤ 4) = decide (many ≤ 4) := by rw [decide_eq_decide]; omega
      rw [unhide HE, ← hd]
      rfl
end Go.Proofs.YtcbindgpbeaebaaGreatDoor

namespace Go.Proofs.YtcbindgpbeaebaaGreatDoor
open Go.RowKit Go.Deep
attribute [local go_sem ↓] Go.wp_at_zero Go.wp_at_succ

/-! ### Nodes in memory -/
def rowD (l : List Nd) : List Value := l.flatMap ndC
theorem rowD_len : ∀ l : List Nd, (rowD l).length = l.length * 5
  | [] => rfl
  | p :: r => by
    have h := rowD_len r
    show (ndC p ++ rowD r).length = _
    rw [List.length_append, h]
    simp [ndC]; omega
theorem rowD_app (l m : List Nd) : rowD (l ++ m) = rowD l ++ rowD m := by simp [rowD]
theorem rowD_one (l : List Nd) : ∀ u ∈ rowD l, u.oneCell' = true := fun u hu => by
  simp only [rowD, List.mem_flatMap] at hu
  obtain ⟨n, _, hu⟩ := hu
  simp only [ndC, List.mem_cons, List.not_mem_nil, or_false] at hu
  rcases hu with rfl | rfl | rfl | rfl | rfl <;> rfl
theorem rowD_at : ∀ (M : List Nd) (k j : Nat) (p : Nd), M[k]? = some p → j < 5 → (rowD M)[k * 5 + j]? = (ndC p)[j]?
  | [], k, j, p, h, _ => by simp at h
  | q :: r, 0, j, p, h, hj => by
    simp at h; subst h
    rw [Nat.zero_mul, Nat.zero_add, rowD, List.flatMap_cons, List.getElem?_append_left (by simp [ndC]; omega)]
  | q :: r, k + 1, j, p, h, hj => by
    have ih := rowD_at r k j p (by simpa using h) hj
    rw [rowD, List.flatMap_cons, List.getElem?_append_right (by simp [ndC]; omega), ← ih, rowD]
    congr 1
    simp [ndC]; omega
/-- A list of nodes in memory. -/
def NAt (w : World) (v : Value) (l : List Nd) : Prop := w.ownsRow 0 76 5 v l.length (rowD l)
theorem NAt.form {w : World} {v : Value} {l : List Nd} (h : NAt w v l) : ∃ ao cap, v = .slice ao l.length cap := row_form h
theorem NAt.below {w w' : World} {v : Value} {l : List Nd} (h : NAt w v l) (hb : Below w.heap.size w w') : NAt w' v l := row_below h hb
theorem NAt.alloc {w : World} {v : Value} {l : List Nd} (h : NAt w v l) (o : Obj) : NAt (w.alloc o) v l := World.ownsRow.alloc h o
theorem NAt.drew {w : World} {v : Value} {l : List Nd} (h : NAt w v l) : NAt w.drew v l := World.ownsRow.drew h
theorem NAt.nil (w : World) : NAt w (.slice none 0 0) [] := World.ownsRow_nil _ _ _ _
/-- The five cells of a node. -/
structure At5 (w : World) (g k : Nat) (n : Nd) : Prop where
  c0 : w.cell? ⟨g, k * 5, none⟩ = some (.string n.path)
  c1 : w.cell? ⟨g, k * 5 + 1, none⟩ = some (.int .i64 n.kind)
  c2 : w.cell? ⟨g, k * 5 + 2, none⟩ = some (.int .i64 n.mode)
  c3 : w.cell? ⟨g, k * 5 + 3, none⟩ = some (.int .i64 n.tag)
  c4 : w.cell? ⟨g, k * 5 + 4, none⟩ = some (.string n.data)
theorem NAt.at {w : World} {v : Value} {l : List Nd} (h : NAt w v l) (k : Nat) (p : Nd) (hk : l[k]? = some p) :
    ∃ g cap, v = .slice (some ⟨g, 0, none⟩) l.length cap ∧ At5 w g k p ∧ g < w.heap.size := by
  have hl : k < l.length := (List.getElem?_eq_some_iff.1 hk).1
  obtain ⟨g, cap, hv, _, hg⟩ := World.ownsRow.form h (by omega)
  have hc := World.ownsRow.cells h (g := g) (by rw [hv]; rfl)
  have hj : ∀ j v, j < 5 → (ndC p)[j]? = some v → w.cell? ⟨g, k * 5 + j, none⟩ = some v := fun j v hj hv => by
    rw [← addr0]
    exact hc _ _ (by rw [rowD_at l k j p hk hj, hv])
  exact ⟨g, cap, hv, ⟨hj 0 _ (by omega) rfl, hj 1 _ (by omega) rfl, hj 2 _ (by omega) rfl, hj 3 _ (by omega) rfl, hj 4 _ (by omega) rfl⟩, hg⟩

set_option maxRecDepth 100000 in
set_option maxHeartbeats 3200000 in
/-- (Base).find -/
theorem bfind_any (w : World) (v : Value) (l : List Nd) (q : ByteArray) (h : NAt w v l) (hl : l.length ≤ 1000000) :
    Calls Tryz.prog 86 #[.agg #[v], .string q] w fun e w' => e = .returned (.int .i64 (findI l q)) ∧ ∃ o, w' = w.alloc o := by
  obtain ⟨ao, cap, hv⟩ := h.form
  subst hv
  obtain ⟨W, hW⟩ : ∃ W, W = w.alloc (.cells #[.slice ao l.length cap] 30) := ⟨_, rfl⟩
  have c0 : W.cell? ⟨w.heap.size, 0, none⟩ = some (.slice ao l.length cap) := by rw [hW]; exact cell_of_row _ _ _ _ _ _ (heap_alloc_new w _)
  have hA : NAt W (.slice ao l.length cap) l := by rw [hW]; exact h.alloc _
  go_enter Tryz.func86, Tryz.ntmps86
  go_wp2_with fail
  rw [← hW]
  have HW := hide hW
  clear hW
  go_loop [5] (fun i => ∃ k : Nat, k ≤ l.length ∧ i = .int .i64 k ∧ ∀ j m, j < k → l[j]? = some m → (m.path.toList == q.toList) = false) (fun i => l.length - (intOf i).toNat)
  case atStart => exact ⟨0, Nat.zero_le _, rfl, fun j p hj _ => by omega⟩
  case round =>
    obtain ⟨k, hk, rfl, hno⟩ := hrel
    have HN := hide hno
    clear hno
    by_cases hlt : k < l.length
    · obtain ⟨p, hp⟩ : ∃ p, l[k]? = some p := ⟨l[k], List.getElem?_eq_getElem hlt⟩
      obtain ⟨g, capx, he, ⟨d0, _, _, _, _⟩, lg⟩ := hA.at k p hp
      have hao : ao = some ⟨g, 0, none⟩ := by
        simp only [Value.slice.injEq] at he
        exact he.1
      subst hao
      clear he
      have i0 : (0 : Int) ≤ (k : Int) := Int.natCast_nonneg _
      have i1 : (k : Int) < (l.length : Int) := by omega
      cases hb : p.path.toList == q.toList
      · have HP := hide hp
        have HK := hide hb
        go_wp2_with fail
        go_round
        case rel =>
          refine ⟨k + 1, by omega, by go_num, fun j m hj hm => ?_⟩
          by_cases hjk : j = k
          · subst hjk
            rw [unhide HP] at hm
            cases hm
            exact unhide HK
          · exact (unhide HN) j m (by omega) hm
        case measure => simp [intOf]; omega
      · have HR := hide (findI_some hp hb (unhide HN)).1
        clear hp
        go_wp2_with fail
        go_ret
        exact ⟨by rw [unhide HR]; rfl, _, unhide HW⟩
    · have HR := hide (findI_none (l := l) (q := q) fun n hn => by
        obtain ⟨j, hj⟩ := List.mem_iff_getElem?.1 hn
        have := (List.getElem?_eq_some_iff.1 hj).1
        exact (unhide HN) j n (by omega) hj).1
      go_wp2_with fail
      go_ret
      exact ⟨by rw [unhide HR]; rfl, _, unhide HW⟩

end Go.Proofs.YtcbindgpbeaebaaGreatDoor
