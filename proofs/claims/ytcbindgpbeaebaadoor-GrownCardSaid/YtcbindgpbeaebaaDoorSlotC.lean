import Derived.Test.YtcbindgpbeaebaaDoorSlotB
namespace Go.Proofs.YtcbindgpbeaebaaDoor
open Go.RowKit Go.Deep
attribute [local go_sem ↓] Go.wp_at_zero Go.wp_at_succ

/-- A block among those that were put. -/
def putP (ps : List (Nat × ByteArray)) (a : Nat) (s : ByteArray) : List (Nat × ByteArray) :=
  if 0 ≤ idx ps (a : Int) then ps.set (idx ps (a : Int)).toNat (a, pad s) else ps ++ [(a, pad s)]
theorem putL_ok {n : Nat} {ps : List (Nat × ByteArray)} {a : Nat} {s : ByteArray} (hn : a + 90 < n) (hs : s.size ≤ 256) (hp : ps.length < 80) : putL n ps (a : Int) s = (0, putP ps a s) := by
  have h1 : hasB n (a : Int) = true := by simp [hasB]; omega
  unfold putL putP
  rw [h1, if_neg (by simp; omega)]
  split
  · rfl
  · rw [if_neg (by omega)]; rfl
theorem putP_len (ps : List (Nat × ByteArray)) (a : Nat) (s : ByteArray) : (putP ps a s).length ≤ ps.length + 1 := by
  unfold putP
  split <;> simp
/-- Both blocks of a slot. -/
def put2 (ps : List (Nat × ByteArray)) (slot : Nat) (t : ByteArray) : List (Nat × ByteArray) :=
  putP (putP ps (2 * slot) (t.extract 0 (min t.size 256))) (2 * slot + 1) (t.extract (min t.size 256) t.size)

theorem enc_size (n : Nd) : (enc n).size = 7 + n.path.size + n.data.size := by
  unfold enc
  rw [ByteArray.size_append, ByteArray.size_append]
  rfl
theorem extract_all (t : ByteArray) : t.extract 0 t.size = t := by
  apply bytes_ext
  rw [Lib.extract_data, Lib.size_eq, Nat.sub_zero, List.drop_zero, List.take_length]
theorem extract_none (t : ByteArray) : t.extract t.size t.size = ⟨#[]⟩ := by
  apply bytes_ext
  rw [Lib.extract_data]
  simp
def FillPost (w : World) (B bl bd bs : Nat) (pv lv : Value) (ps : List (Nat × ByteArray)) (br : Bool) (d : Dk) (e : Ending) (w' : World) : Prop :=
  ∃ pv', e = .returned (.int .i64 0) ∧ Sys w' B bl bd bs pv' lv ps br d ∧ DStep bl bl pv pv' w w'

set_option maxRecDepth 100000 in
set_option maxHeartbeats 6400000 in
theorem fillSlot_any (w : World) (B bl bd bs : Nat) (pv lv : Value) (ps : List (Nat × ByteArray)) (br : Bool) (d : Dk) (slot : Nat) (n : Nd) (s : Sys w B bl bd bs pv lv ps br d) (hn : d.safe.length ≤ 4096) (hn3 : 300 ≤ d.safe.length) (hp : ps.length ≤ 78) (hs : slot < 60)
    (hk : 0 ≤ n.kind ∧ n.kind < 256) (hm : 0 ≤ n.mode ∧ n.mode < 512) (htg : 0 ≤ n.tag ∧ n.tag < 256) (hpz : n.path.size ≤ 60) (hdz : n.data.size ≤ 400) :
    Calls Tryd.prog 104 #[.pointer (some ⟨bl, 0, none⟩), .int .i64 (slot : Int), ndV n] w (FillPost w B bl bd bs pv lv (put2 ps slot (enc n)) br d) := by
  have hsz := enc_size n
  have henc := fun w => encode_any w n hk hm htg (by omega) hdz
  unfold ndV at henc ⊢
  obtain ⟨t, ht⟩ : ∃ t, t = enc n := ⟨_, rfl⟩
  rw [← ht] at hsz henc ⊢
  have ht512 : t.size ≤ 512 := by omega
  have HE := hide henc
  clear henc hsz ht
  have h1 : ∀ (w : World) (pv : Value), Sys w B bl bd bs pv lv ps br d → ∀ x : ByteArray, x.size ≤ 256 → Calls Tryd.prog 120 #[.pointer (some ⟨bl, 0, none⟩), .int .i64 ((slot : Int) * 2), .string x] w (FillPost w B bl bd bs pv lv (putP ps (2 * slot) x) br d) := fun w pv s x hx => by
    have hq := putL_ok (n := d.safe.length) (ps := ps) (a := 2 * slot) (s := x) (by omega) hx (by omega)
    have e : ((2 * slot : Nat) : Int) = (slot : Int) * 2 := by omega
    rw [e] at hq
    refine (put_any w bl bd bs pv lv ps br d ((slot : Int) * 2) x s.log s.disk hn (by omega)).mono ?_
    rintro e w1 ⟨pv1, rfl, hl1, st⟩
    rw [hq] at hl1 ⊢
    exact ⟨pv1, rfl, (s.ofLog hl1 st).1, st⟩
  have h2 : ∀ (w : World) (pv : Value) (qs : List (Nat × ByteArray)), qs.length < 80 → Sys w B bl bd bs pv lv qs br d → ∀ x : ByteArray, x.size ≤ 256 → Calls Tryd.prog 120 #[.pointer (some ⟨bl, 0, none⟩), .int .i64 ((slot : Int) * 2 + 1), .string x] w (FillPost w B bl bd bs pv lv (putP qs (2 * slot + 1) x) br d) := fun w pv qs hqs s x hx => by
    have hq := putL_ok (n := d.safe.length) (ps := qs) (a := 2 * slot + 1) (s := x) (by omega) hx hqs
    have e : ((2 * slot + 1 : Nat) : Int) = (slot : Int) * 2 + 1 := by omega
    rw [e] at hq
    refine (put_any w bl bd bs pv lv qs br d ((slot : Int) * 2 + 1) x s.log s.disk hn (by omega)).mono ?_
    rintro e w1 ⟨pv1, rfl, hl1, st⟩
    rw [hq] at hl1 ⊢
    exact ⟨pv1, rfl, (s.ofLog hl1 st).1, st⟩
  obtain ⟨r, hr⟩ : ∃ r, r = t.extract (min t.size 256) t.size := ⟨_, rfl⟩
  obtain ⟨p1, hp1⟩ : ∃ p1, p1 = t.extract 0 (min t.size 256) := ⟨_, rfl⟩
  obtain ⟨P1, hP1⟩ : ∃ P1, P1 = putP ps (2 * slot) p1 := ⟨_, rfl⟩
  obtain ⟨P2, hP2⟩ : ∃ P2, P2 = putP P1 (2 * slot + 1) r := ⟨_, rfl⟩
  have e2 : put2 ps slot t = P2 := by rw [hP2, hP1, hr, hp1]; rfl
  rw [e2]
  have hpl : P1.length ≤ ps.length + 1 := by rw [hP1]; exact putP_len _ _ _
  have hrz : r.size ≤ 256 := by rw [hr, ByteArray.size_extract]; omega
  have hpz1 : p1.size ≤ 256 := by rw [hp1, ByteArray.size_extract]; omega
  have k1 : ∀ (w : World) (pv : Value), Sys w B bl bd bs pv lv ps br d → Calls Tryd.prog 120 #[.pointer (some ⟨bl, 0, none⟩), .int .i64 ((slot : Int) * 2), .string p1] w (FillPost w B bl bd bs pv lv P1 br d) := fun w pv s => by rw [hP1]; exact h1 w pv s p1 hpz1
  have k2 : ∀ (w : World) (pv : Value), Sys w B bl bd bs pv lv P1 br d → Calls Tryd.prog 120 #[.pointer (some ⟨bl, 0, none⟩), .int .i64 ((slot : Int) * 2 + 1), .string r] w (FillPost w B bl bd bs pv lv P2 br d) := fun w pv s => by rw [hP2]; exact h2 w pv P1 (by omega) s r hrz
  have hcase : (t.size ≤ 256 ∧ p1 = t ∧ r = t.extract t.size t.size) ∨ (256 < t.size ∧ p1 = t.extract 0 256 ∧ r = t.extract 256 t.size) := by
    by_cases hA : t.size ≤ 256
    · refine .inl ⟨hA, ?_, ?_⟩
      · rw [hp1, show min t.size 256 = t.size by omega, extract_all]
      · rw [hr, show min t.size 256 = t.size by omega]
    · refine .inr ⟨by omega, ?_, ?_⟩
      · rw [hp1, show min t.size 256 = 256 by omega]
      · rw [hr, show min t.size 256 = 256 by omega]
  have hend : r.extract r.size r.size = ⟨#[]⟩ := extract_none r
  have HEND := hide hend
  have HK1 := hide k1
  have HK2 := hide k2
  have HCASE := hide hcase
  clear h1 h2 hr hp1 hP1 hP2 e2 k1 k2 hcase hend
  go_enter Tryd.func104, Tryd.ntmps104
  go_wp2_with fail
  refine ((unhide HE) _).mono ?_
  rintro e w1 ⟨rfl, hb1⟩
  have hb : Below w.heap.size w w1 := ((Below.refl _ w).alloc (Nat.le_refl _) _).trans (hb1.mono (by simp))
  have HB := hide hb
  clear hb hb1
  go_wp2_with fail
  go_loopw [7, 13] (fun tv i wr => ∃ pvk, DStep bl bl pv pvk w wr ∧ ((i = .int .i64 0 ∧ tv = .string t ∧ Sys wr B bl bd bs pvk lv ps br d) ∨ (i = .int .i64 1 ∧ tv = .string r ∧ Sys wr B bl bd bs pvk lv P1 br d) ∨ (i = .int .i64 2 ∧ Sys wr B bl bd bs pvk lv P2 br d ∧ ∃ x, tv = .string x))) (fun _ i _ => 2 - (intOf i).toNat)
  case atStart => exact ⟨pv, DStep.ofBelow (unhide HB), .inl ⟨rfl, rfl, (s.ofLog (s.log.below (unhide HB)) (DStep.ofBelow (unhide HB))).1⟩⟩
  case round =>
    obtain ⟨pvk, st, ⟨rfl, rfl, hsk⟩ | ⟨rfl, rfl, hsk⟩ | ⟨rfl, hsk, x, rfl⟩⟩ := hrel
    · rcases unhide HCASE with ⟨hA, hp1, hr⟩ | ⟨hA, hp1, hr⟩
      · have hA' : (t.size : Int) ≤ 256 := by omega
        have hc := (unhide HK1) wr pvk hsk
        rw [hp1] at hc
        have HC := hide hc
        have HR := hide hr
        clear hc hr hp1
        go_wp2_with fail
        refine (unhide HC).mono ?_
        rintro e w2 ⟨pv2, rfl, s2, st2⟩
        go_wp2_with fail
        go_roundw
        case rel => exact ⟨pv2, st.trans st2, .inr (.inl ⟨by go_num, by rw [unhide HR, extract_none]; rfl, s2⟩)⟩
        case measure => simp [intOf]
      · have hA' : (256 : Int) < (t.size : Int) := by omega
        have hA2 : (256 : Int) ≤ (t.size : Int) := by omega
        have hc := (unhide HK1) wr pvk hsk
        rw [hp1] at hc
        have HC := hide hc
        have HR := hide hr
        clear hc hr hp1
        go_wp2_with fail
        refine (unhide HC).mono ?_
        rintro e w2 ⟨pv2, rfl, s2, st2⟩
        go_wp2_with fail
        go_roundw
        case rel => exact ⟨pv2, st.trans st2, .inr (.inl ⟨by go_num, by rw [unhide HR], s2⟩)⟩
        case measure => simp [intOf]
    · have hrz' : (r.size : Int) ≤ 256 := by omega
      have hc := (unhide HK2) wr pvk hsk
      have HC := hide hc
      clear hc
      go_wp2_with fail
      refine (unhide HC).mono ?_
      rintro e w2 ⟨pv2, rfl, s2, st2⟩
      go_wp2_with fail
      go_roundw
      case rel => exact ⟨pv2, st.trans st2, .inr (.inr ⟨by go_num, s2, _, rfl⟩)⟩
      case measure => simp [intOf]
    · go_wp2_with fail
      go_ret
      exact ⟨pvk, rfl, hsk, st⟩
end Go.Proofs.YtcbindgpbeaebaaDoor
