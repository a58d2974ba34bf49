import Derived.Test.YtcbindgpbeaebaaGreatDoorMem
import Derived.LoopTactic
import Derived.Lib.BufferWrite
namespace Go.Proofs.YtcbindgpbeaebaaGreatDoor
open Go.RowKit Go.Deep
attribute [local go_sem ↓] Go.wp_at_zero Go.wp_at_succ

theorem ownsRow_form {w : World} {e : TypeId} {size : Nat} {v : Value} {n : Nat} {xs : List Value} (h : w.ownsRow 0 e size v n xs) : ∃ ao cap, v = .slice ao n cap := by
  rcases h.2 with ⟨h1, h2⟩ | ⟨g, cap, _, h1, _⟩
  · exact ⟨none, 0, by rw [h1, h2]⟩
  · exact ⟨_, cap, h1⟩

/-- What is late is laid where it belongs. -/
def lay (safe : List ByteArray) (late : List (Nat × ByteArray)) : List ByteArray := late.foldl (fun s p => s.set p.1 p.2) safe
theorem lay_len (late : List (Nat × ByteArray)) : ∀ safe, (lay safe late).length = safe.length := by
  induction late with
  | nil => intro s; rfl
  | cons p r ih => intro s; show (lay (s.set p.1 p.2) r).length = _; rw [ih]; simp
theorem lay_snoc (safe : List ByteArray) (l : List (Nat × ByteArray)) (p : Nat × ByteArray) : lay safe (l ++ [p]) = (lay safe l).set p.1 p.2 := by simp [lay]

/-- (*Disk).Flush -/
def Dk.flush (d : Dk) : Bool × Dk := if d.changes.1 then (true, { d.changes.2 with safe := lay d.safe d.late, late := [] }) else (false, d.changes.2)

set_option maxRecDepth 100000 in
set_option maxHeartbeats 3200000 in
theorem flush_any (w : World) (bd bs : Nat) (lv : Value) (d : Dk) (h : DAt w bd bs lv d) (ok : d.Ok) (hl : d.late.length ≤ 1000000) :
    Calls Tryz.prog 149 #[.pointer (some ⟨bd, 0, none⟩)] w fun e w' => ∃ lv', e = .returned (.bool d.flush.1) ∧ DAt w' bd bs lv' d.flush.2 ∧ DStep bd bs lv lv' w w' := by
  have hn := ok.n
  have hlt := ok.lt
  cases hc : d.changes.1 with
  | false =>
    have HC := hide hc
    clear hc
    go_enter Tryz.func149, Tryz.ntmps149
    go_wp2_with fail
    refine (changes_any w bd bs lv d h ok).mono ?_
    rintro e w1 ⟨rfl, h1, st, hz⟩
    rw [unhide HC]
    go_wp2_with fail
    go_ret
    exact ⟨lv, by simp [Dk.flush, unhide HC], by simpa [Dk.flush, unhide HC] using h1, st⟩
  | true =>
    have HC := hide hc
    clear hc
    go_enter Tryz.func149, Tryz.ntmps149
    go_wp2_with fail
    refine (changes_any w bd bs lv d h ok).mono ?_
    rintro e w1 ⟨rfl, h1, st, hz⟩
    rw [unhide HC]
    clear hz
    obtain ⟨ao, cap, hlv⟩ := ownsRow_form h1.late
    rw [Dk.changes_late] at hlv
    subst hlv
    generalize hd1 : d.changes.2 = d1 at h1
    have hs1 : d1.safe = d.safe := by rw [← hd1, Dk.changes_safe]
    have hl1 : d1.late = d.late := by rw [← hd1, Dk.changes_late]
    have hcp1 : d1.cap = d.cap := by rw [← hd1, Dk.changes_cap]
    have HCP := hide hcp1
    clear hcp1
    have HD := hide hd1
    have HS := hide hs1
    have HL := hide hl1
    clear hd1 hs1 hl1
    have c1 := h1.c1
    go_wp2_with fail
    go_loopw [4] (fun i wr => ∃ k : Nat, k ≤ d.late.length ∧ i = .int .i64 k ∧ DAt wr bd bs (.slice ao d.late.length cap) { d1 with safe := lay d.safe (d.late.take k) } ∧ DStep bd bs (.slice ao d.late.length cap) (.slice ao d.late.length cap) w1 wr) (fun i _ => d.late.length - (intOf i).toNat)
    case atStart => exact ⟨0, Nat.zero_le _, rfl, by rw [List.take_zero]; show DAt w1 bd bs _ { d1 with safe := d.safe }; rw [← unhide HS]; exact h1, DStep.refl _ _ _ _⟩
    case round =>
      obtain ⟨k, hk, rfl, hr, sr⟩ := hrel
      have r1 := hr.c1
      have rz := hr.fz 1
      by_cases hlt1 : k < d.late.length
      · obtain ⟨p, hp⟩ : ∃ p, d.late[k]? = some p := ⟨d.late[k], List.getElem?_eq_getElem hlt1⟩
        have hpl : p.1 < d.safe.length := hlt p (List.mem_of_getElem? hp)
        obtain ⟨g, capx, he, cA, cB⟩ := hr.lc k p (by show d1.late[k]? = _; rw [unhide HL]; exact hp)
        have hao : ao = some ⟨g, 0, none⟩ := by
          simp only [Value.slice.injEq] at he
          exact he.1
        subst hao
        clear he
        have r0 := hr.c0
        have hll := lay_len (d.late.take k) d.safe
        rw [show (({ d1 with safe := lay d.safe (d.late.take k) } : Dk)).safe.length = d.safe.length from hll, show (({ d1 with safe := lay d.safe (d.late.take k) } : Dk)).cap = d.cap from unhide HCP] at r0
        have rs := hr.fs p.1
        obtain ⟨old, ho⟩ : ∃ s, (lay d.safe (d.late.take k))[p.1]? = some s := ⟨_, List.getElem?_eq_getElem (by omega)⟩
        have rc := hr.sc p.1 old ho
        have gs : ¬ g = bs := fun e => hr.ns (by simp [Value.ownBlock, e])
        have ds : ¬ bd = bs := hr.ne
        have HP := hide hp
        have HO := hide ho
        clear hp ho hll
        have i0 : (0 : Int) ≤ (k : Int) := Int.natCast_nonneg _
        have i1 : (k : Int) < (d.late.length : Int) := by omega
        have j0 : (0 : Int) ≤ (p.1 : Int) := Int.natCast_nonneg _
        have j1 : (p.1 : Int) < (d.safe.length : Int) := by omega
        go_wp2_with fail
        go_region_held3 (fun w' => w'.cell? ⟨bd, 0, none⟩ = some (.slice (some ⟨bs, 0, none⟩) d.safe.length d.cap) ∧ w'.cell? ⟨bd, 1, none⟩ = some (.slice (some ⟨g, 0, none⟩) d.late.length cap) ∧ w'.cell? ⟨g, k * 2, none⟩ = some (.int .i64 (p.1 : Int)) ∧ w'.cell? ⟨g, k * 2 + 1, none⟩ = some (.string p.2)) (first | exact ⟨(cell_set_far _ _ _ _ ds).trans r0, (cell_set_far _ _ _ _ ds).trans r1, (cell_set_far _ _ _ _ gs).trans cA, (cell_set_far _ _ _ _ gs).trans cB⟩ | go_keep) (fail)
        go_wp2
        go_roundw
        case rel =>
          refine ⟨k + 1, by omega, by go_num, ?_, ?_⟩
          · have hE := (hr.setSafe p.1 p.2).drew
            have hts : lay d.safe (d.late.take (k + 1)) = (lay d.safe (d.late.take k)).set p.1 p.2 := by
              rw [List.take_add_one, unhide HP]
              exact lay_snoc _ _ _
            rw [hts]
            exact hE
          · exact (sr.setSafe _ _).drew
        case measure => simp [intOf]; omega
      · have hk' : k = d.late.length := by omega
        have HE : Hid (lay d.safe (d.late.take k) = lay d.safe d.late) := by show lay d.safe (d.late.take k) = _; rw [hk', List.take_length]
        clear hk'
        go_wp2_with fail
        go_ret
        have hE := hr.setLate (.slice none 0 0) [] (World.ownsRow_nil _ _ _ _) (by simp [Value.ownBlock]) (by simp [Value.ownBlock])
        refine ⟨.slice none 0 0, by simp [Dk.flush, unhide HC], ?_, st.trans (sr.trans ?_)⟩
        · rw [unhide HE] at hE
          simpa [Dk.flush, unhide HC, unhide HD] using hE
        · refine ⟨rfl, rfl, rfl, by simp [World.setCell], fun q _ a _ _ => Below.heap_setCell _ _ _ _ a, fun q hq => by simp [Value.ownBlock] at hq⟩

/-- Is a raw number odd? -/
def oddB (c : Int) : Bool := bits BinOp.and IntKind.i64 c 1 == 1
/-- What a crash keeps: of the late writes those whose raw number is odd. -/
def kept : List (Nat × ByteArray) → List Int → List (Nat × ByteArray)
  | p :: r, k :: ks => if oddB k then p :: kept r ks else kept r ks
  | _, _ => []
theorem kept_snoc : ∀ (l : List (Nat × ByteArray)) (ks : List Int) (i : Nat) (p : Nat × ByteArray) (c : Int), l[i]? = some p → ks[i]? = some c →
    kept (l.take (i + 1)) (ks.take (i + 1)) = kept (l.take i) (ks.take i) ++ (if oddB c then [p] else [])
  | [], _, _, _, _, h, _ => by simp at h
  | _ :: _, [], _, _, _, _, h => by simp at h
  | q :: l, k :: ks, 0, p, c, h1, h2 => by
    simp at h1 h2; subst h1 h2
    simp [kept]
  | q :: l, k :: ks, i + 1, p, c, h1, h2 => by
    have ih := kept_snoc l ks i p c (by simpa using h1) (by simpa using h2)
    simp only [List.take_succ_cons, kept]
    split <;> simp [ih]
theorem kept_take_all (l : List (Nat × ByteArray)) (ks : List Int) (n : Nat) (h : l.length ≤ n ∨ ks.length ≤ n) : kept (l.take n) (ks.take n) = kept l ks := by
  induction n generalizing l ks with
  | zero => cases l <;> cases ks <;> simp [kept] at * 
  | succ n ih =>
    match l, ks with
    | [], _ => simp [kept]
    | _ :: _, [] => simp [kept]
    | q :: l, k :: ks =>
      simp only [List.take_succ_cons, kept]
      rw [ih l ks (by simp at h; omega)]

/-- (*Disk).Crash -/
def Dk.crash (d : Dk) (ks : List Int) : Dk := { d with safe := lay d.safe (kept d.late ks), late := [], wait := -1, life := -1 }

/-- A list of numbers that came in. -/
def IntsAt (w : World) (v : Value) (ks : List Int) : Prop :=
  (∃ ao cap, v = .slice ao ks.length cap ∧ ∀ i c, ks[i]? = some c → ∃ b o, ao = some ⟨b, o, none⟩ ∧ w.cell? ⟨b, o + i, none⟩ = some (.int .i64 c)) ∧ ∀ c ∈ ks, -9223372036854775808 ≤ c ∧ c ≤ 9223372036854775807

set_option maxRecDepth 100000 in
set_option maxHeartbeats 3200000 in
theorem crash_any (w : World) (bd bs : Nat) (lv kv : Value) (d : Dk) (ks : List Int) (h : DAt w bd bs lv d) (ok : d.Ok) (hl : d.late.length ≤ 1000000) (hk : IntsAt w kv ks)
    (hfar : ∀ b o n c, kv = .slice (some ⟨b, o, none⟩) n c → 0 < n → b < w.heap.size ∧ b ≠ bd ∧ b ≠ bs ∧ lv.ownBlock ≠ some b) :
    Calls Tryz.prog 28 #[.pointer (some ⟨bd, 0, none⟩), kv] w fun e w' => ∃ lv', e = .returned (.tuple #[]) ∧ DAt w' bd bs lv' (d.crash ks) ∧ DStep bd bs lv lv' w w' := by
  have hn := ok.n
  have hlt := ok.lt
  obtain ⟨ao, cap, hlv⟩ := ownsRow_form h.late
  subst hlv
  obtain ⟨⟨ko, kcap, rfl, hkc⟩, hkb⟩ := hk
  have HF := hide hfar
  clear hfar
  have HKC := hide hkc
  clear hkc
  have c1 := h.c1
  go_enter Tryz.func28, Tryz.ntmps28
  go_wp2_with fail
  go_loopw [4] (fun i wr => ∃ k : Nat, k ≤ d.late.length ∧ k ≤ ks.length ∧ i = .int .i64 k ∧ DAt wr bd bs (.slice ao d.late.length cap) { d with safe := lay d.safe (kept (d.late.take k) (ks.take k)) } ∧ DStep bd bs (.slice ao d.late.length cap) (.slice ao d.late.length cap) w wr) (fun i _ => d.late.length - (intOf i).toNat)
  case atStart => exact ⟨0, Nat.zero_le _, Nat.zero_le _, rfl, by simpa [kept, lay] using h, DStep.refl _ _ _ _⟩
  case round =>
    obtain ⟨k, hk, hkk, rfl, hr, sr⟩ := hrel
    have r1 := hr.c1
    have rz := hr.fz 1
    have rz2 := hr.fz 2
    have rz3 := hr.fz 3
    have r2 := hr.c2
    have r3 := hr.c3
    by_cases hboth : k < d.late.length ∧ k < ks.length
    · obtain ⟨hlt1, hlt2⟩ := hboth
      obtain ⟨p, hp⟩ : ∃ p, d.late[k]? = some p := ⟨d.late[k], List.getElem?_eq_getElem hlt1⟩
      obtain ⟨c, hc⟩ : ∃ c, ks[k]? = some c := ⟨ks[k], List.getElem?_eq_getElem hlt2⟩
      have hpl : p.1 < d.safe.length := hlt p (List.mem_of_getElem? hp)
      have hcb := hkb c (List.mem_of_getElem? hc)
      obtain ⟨b, o, hko, kc⟩ := (unhide HKC) k c hc
      subst hko
      obtain ⟨fb, fd, fs, fl⟩ := (unhide HF) b o _ _ rfl (by omega)
      have kr : wr.cell? ⟨b, o + k, none⟩ = some (.int .i64 c) := (World.cell?_of_block (sr.block b fb fd fs fl)).trans kc
      obtain ⟨g, capx, he, cA, cB⟩ := hr.lc k p hp
      have hao : ao = some ⟨g, 0, none⟩ := by
        simp only [Value.slice.injEq] at he
        exact he.1
      subst hao
      clear he
      have r0 := hr.c0
      have hll := lay_len (kept (d.late.take k) (ks.take k)) d.safe
      rw [show (({ d with safe := lay d.safe (kept (d.late.take k) (ks.take k)) } : Dk)).safe.length = d.safe.length from hll] at r0
      have rs := hr.fs p.1
      obtain ⟨old, ho⟩ : ∃ s, (lay d.safe (kept (d.late.take k) (ks.take k)))[p.1]? = some s := ⟨_, List.getElem?_eq_getElem (by omega)⟩
      have rc := hr.sc p.1 old ho
      have gs : ¬ g = bs := fun e => hr.ns (by simp [Value.ownBlock, e])
      have ds : ¬ bd = bs := hr.ne
      have HP := hide hp
      have HCC := hide hc
      have HO := hide ho
      clear hp ho hll hc hkb hlt
      have i0 : (0 : Int) ≤ (k : Int) := Int.natCast_nonneg _
      have i1 : (k : Int) < (d.late.length : Int) := by omega
      have i2 : (k : Int) < (ks.length : Int) := by omega
      have j0 : (0 : Int) ≤ (p.1 : Int) := Int.natCast_nonneg _
      have j1 : (p.1 : Int) < (d.safe.length : Int) := by omega
      cases hodd : oddB c with
      | true =>
        have hb : (bits BinOp.and IntKind.i64 c 1 == 1) = true := hodd
        have HOD := hide hodd
        clear hodd
        go_wp2_with fail
        go_region_held3 (fun w' => w'.cell? ⟨bd, 0, none⟩ = some (.slice (some ⟨bs, 0, none⟩) d.safe.length d.cap) ∧ w'.cell? ⟨bd, 1, none⟩ = some (.slice (some ⟨g, 0, none⟩) d.late.length cap) ∧ w'.cell? ⟨g, k * 2, none⟩ = some (.int .i64 (p.1 : Int)) ∧ w'.cell? ⟨g, k * 2 + 1, none⟩ = some (.string p.2)) (first | exact ⟨(cell_set_far _ _ _ _ ds).trans r0, (cell_set_far _ _ _ _ ds).trans r1, (cell_set_far _ _ _ _ gs).trans cA, (cell_set_far _ _ _ _ gs).trans cB⟩ | go_keep) (fail)
        go_wp2
        go_roundw
        case rel =>
          have hts : lay d.safe (kept (d.late.take (k + 1)) (ks.take (k + 1))) = (lay d.safe (kept (d.late.take k) (ks.take k))).set p.1 p.2 := by
            rw [kept_snoc _ _ _ _ _ (unhide HP) (unhide HCC), unhide HOD]
            exact lay_snoc _ _ _
          refine ⟨k + 1, by omega, by omega, by go_num, ?_, (sr.setSafe _ _).drew⟩
          rw [hts]
          exact (hr.setSafe p.1 p.2).drew
        case measure => simp [intOf]; omega
      | false =>
        have hb : (bits BinOp.and IntKind.i64 c 1 == 1) = false := hodd
        have HOD := hide hodd
        clear hodd
        go_wp2_with fail
        go_roundw
        case rel =>
          have hts : kept (d.late.take (k + 1)) (ks.take (k + 1)) = kept (d.late.take k) (ks.take k) := by
            rw [kept_snoc _ _ _ _ _ (unhide HP) (unhide HCC), unhide HOD]
            simp
          refine ⟨k + 1, by omega, by omega, by go_num, ?_, sr⟩
          rw [hts]
          exact hr
        case measure => simp [intOf]; omega
    · have HE : Hid (lay d.safe (kept (d.late.take k) (ks.take k)) = lay d.safe (kept d.late ks)) := by
        show lay d.safe (kept (d.late.take k) (ks.take k)) = _
        rw [kept_take_all _ _ _ (by omega)]
      have hb : d.late.length ≤ k ∨ (k < d.late.length ∧ ks.length ≤ k) := by omega
      clear hboth
      rcases hb with hb1 | ⟨hb1, hb2⟩
      all_goals
        go_wp2_with fail
        go_end0
        have hE := ((hr.setLate (.slice none 0 0) [] (World.ownsRow_nil _ _ _ _) (by simp [Value.ownBlock]) (by simp [Value.ownBlock])).setWait (-1)).setLife (-1)
        refine ⟨rfl, .slice none 0 0, ?_, sr.trans ?_⟩
        · rw [unhide HE] at hE
          exact hE
        · refine ⟨rfl, rfl, rfl, by simp [World.setCell], fun q _ a _ _ => ?_, fun q hq => by simp [Value.ownBlock] at hq⟩
          rw [Below.heap_setCell _ _ _ _ a, Below.heap_setCell _ _ _ _ a, Below.heap_setCell _ _ _ _ a]
end Go.Proofs.YtcbindgpbeaebaaGreatDoor

namespace Go.Proofs.YtcbindgpbeaebaaGreatDoor
open Go.RowKit Go.Deep
attribute [local go_sem ↓] Go.wp_at_zero Go.wp_at_succ

/-- What was written last. -/
def lastOf : List (Nat × ByteArray) → Nat → Option ByteArray
  | [], _ => none
  | p :: r, a => match lastOf r a with
    | some s => some s
    | none => if p.1 = a then some p.2 else none
theorem lastOf_none : ∀ (l : List (Nat × ByteArray)) (a : Nat), (∀ (j : Nat) (p : Nat × ByteArray), l[j]? = some p → p.1 ≠ a) → lastOf l a = none
  | [], _, _ => rfl
  | p :: r, a, h => by
    have h0 := h 0 p (by simp)
    rw [lastOf, lastOf_none r a fun j q hq => h (j + 1) q (by simpa using hq)]
    simp [h0]
theorem lastOf_hit : ∀ (l : List (Nat × ByteArray)) (a i : Nat) (p : Nat × ByteArray), l[i]? = some p → p.1 = a → (∀ j q, i < j → l[j]? = some q → q.1 ≠ a) → lastOf l a = some p.2
  | [], _, _, _, h, _, _ => by simp at h
  | q :: r, a, 0, p, h, e, hn => by
    simp at h; subst h
    rw [lastOf, lastOf_none r a fun j q hq => hn (j + 1) q (by omega) (by simpa using hq)]
    simp [e]
  | q :: r, a, i + 1, p, h, e, hn => by
    rw [lastOf, lastOf_hit r a i p (by simpa using h) e fun j q hj hq => hn (j + 1) q (by omega) (by simpa using hq)]

/-- The empty text stands for a block of bytes 0. -/
def blk (s : ByteArray) : ByteArray := if s = ⟨#[]⟩ then zs 256 else s
/-- (*Disk).Read, of a block that is there, on a disk that is not dead. -/
def Dk.read (d : Dk) (a : Nat) : ByteArray := (lastOf d.late a).getD (blk ((d.safe[a]?).getD ⟨#[]⟩))

set_option maxRecDepth 100000 in
set_option maxHeartbeats 3200000 in
theorem read_dead (w : World) (bd bs : Nat) (lv : Value) (d : Dk) (a : Int) (h : DAt w bd bs lv d) (a0 : 0 ≤ a) (a1 : a < d.safe.length) (hl : d.life = 0) :
    Calls Tryz.prog 183 #[.pointer (some ⟨bd, 0, none⟩), .int .i64 a] w fun e w' => e = .returned (.tuple #[.string ⟨#[]⟩, .bool false]) ∧ w' = w := by
  obtain ⟨k, rfl⟩ := Int.eq_ofNat_of_zero_le a0
  have c0 := h.c0
  have c3 := h.c3
  rw [hl] at c3
  clear hl
  go_enter Tryz.func183, Tryz.ntmps183
  go_wp2_with fail
  go_ret2
  exact ⟨rfl, rfl⟩

set_option maxRecDepth 100000 in
set_option maxHeartbeats 3200000 in
theorem read_live (w : World) (bd bs : Nat) (lv : Value) (d : Dk) (a : Int) (h : DAt w bd bs lv d) (_hn : d.safe.length ≤ 4096) (a0 : 0 ≤ a) (a1 : a < d.safe.length) (hl : d.life ≠ 0) (hll : d.late.length ≤ 1000000) :
    Calls Tryz.prog 183 #[.pointer (some ⟨bd, 0, none⟩), .int .i64 a] w fun e w' => e = .returned (.tuple #[.string (d.read a.toNat), .bool true]) ∧ (w' = w ∨ ∃ o, w' = w.alloc o) := by
  obtain ⟨k, rfl⟩ := Int.eq_ofNat_of_zero_le a0
  rw [Int.toNat_natCast]
  obtain ⟨ao, cap, hlv⟩ := ownsRow_form h.late
  subst hlv
  have c0 := h.c0
  have c1 := h.c1
  have c3 := h.c3
  have bl : (d.life == 0) = false := by simpa using hl
  obtain ⟨s, hs⟩ : ∃ s, d.safe[k]? = some s := ⟨d.safe[k]'(by omega), List.getElem?_eq_getElem _⟩
  have cs := h.sc k s hs
  have HS := hide hs
  clear hs hl
  go_enter Tryz.func183, Tryz.ntmps183
  go_wp2_with fail
  go_loop [6] (fun i => ∃ m : Nat, m ≤ d.late.length ∧ i = .int .i64 ((m : Int) - 1) ∧ ∀ j q, m ≤ j → d.late[j]? = some q → q.1 ≠ k) (fun i => (intOf i + 1).toNat)
  case atStart => exact ⟨d.late.length, Nat.le_refl _, rfl, fun j q hj hq => by rw [List.getElem?_eq_none hj] at hq; cases hq⟩
  case round =>
    obtain ⟨m, hm, rfl, hno⟩ := hrel
    have HN := hide hno
    clear hno
    rcases m with _ | m
    · have HL : Hid (lastOf d.late k = none) := lastOf_none _ _ fun j q hq => (unhide HN) j q (Nat.zero_le _) hq
      by_cases he : s = ⟨#[]⟩
      · have HR : Hid (d.read k = zs 256) := by show d.read k = _; rw [Dk.read, unhide HL, unhide HS]; simp [blk, he]
        subst he
        go_wp2_with fail
        refine (zeros_any _ _ (by omega) (by omega)).mono ?_
        rintro e w' ⟨rfl, o, rfl⟩
        go_wp2_with fail
        go_ret2
        exact ⟨by rw [unhide HR]; rfl, .inr ⟨o, rfl⟩⟩
      · have HR : Hid (d.read k = s) := by show d.read k = _; rw [Dk.read, unhide HL, unhide HS]; simp [blk, he]
        have hb : s.toList.isEmpty = false := by
          rw [Bool.eq_false_iff]
          intro e
          apply he
          rw [ByteArray.toList_eq, List.isEmpty_iff] at e
          cases s with | mk dd => cases dd with | mk ll => simp at e; subst e; rfl
        clear he
        go_wp2_with fail
        go_ret2
        exact ⟨by rw [unhide HR]; rfl, .inl rfl⟩
    · obtain ⟨p, hp⟩ : ∃ p, d.late[m]? = some p := ⟨d.late[m]'(by omega), List.getElem?_eq_getElem _⟩
      obtain ⟨g, capx, he, cA, cB⟩ := h.lc m p hp
      have hao : ao = some ⟨g, 0, none⟩ := by
        simp only [Value.slice.injEq] at he
        exact he.1
      subst hao
      clear he
      have hmm : ((m + 1 : Nat) : Int) - 1 = (m : Int) := by omega
      rw [hmm]
      clear hmm
      have i0 : (0 : Int) ≤ (m : Int) := Int.natCast_nonneg _
      have i1 : (m : Int) < (d.late.length : Int) := by omega
      have HP := hide hp
      clear hp
      by_cases hpk : p.1 = k
      · have HR : Hid (d.read k = p.2) := by
          show d.read k = _
          rw [Dk.read, lastOf_hit _ _ m p (unhide HP) hpk fun j q hj hq => (unhide HN) j q (by omega) hq]
          rfl
        have hb : ((p.1 : Int) == (k : Int)) = true := by simp [hpk]
        clear hpk
        go_wp2_with fail
        go_ret2
        exact ⟨by rw [unhide HR]; rfl, .inl rfl⟩
      · have hb : ((p.1 : Int) == (k : Int)) = false := by simp; omega
        have HK := hide hpk
        clear hpk
        go_wp2_with fail
        go_round
        case rel =>
          refine ⟨m, by omega, by go_num, fun j q hj hq => ?_⟩
          by_cases hjm : j = m
          · subst hjm
            rw [unhide HP] at hq
            cases hq
            exact unhide HK
          · exact (unhide HN) j q (by omega) hq
        case measure => simp [intOf]
end Go.Proofs.YtcbindgpbeaebaaGreatDoor

namespace Go.Proofs.YtcbindgpbeaebaaGreatDoor
open Go.RowKit Go.Deep
attribute [local go_sem ↓] Go.wp_at_zero Go.wp_at_succ

theorem info_string : (Tryz.prog.info? 9).map (fun i => (i.zero, i.size, i.bytes)) = some (some (.string ⟨#[]⟩), 1, 16) := by kernel_rfl

/-- blocks.New -/
def newDk (n : Nat) : Dk := { safe := List.replicate n ⟨#[]⟩, late := [], wait := -1, life := -1, failed := 0, cap := n }
theorem new_any (w : World) (n : Int) (n0 : 0 < n) (n1 : n ≤ 4096) :
    Calls Tryz.prog 12 #[.int .i64 n] w fun e w' => ∃ bd bs, e = .returned (.pointer (some ⟨bd, 0, none⟩)) ∧ DAt w' bd bs (.slice none 0 0) (newDk n.toNat) ∧ Below w.heap.size w w' ∧ w.heap.size ≤ bd ∧ w.heap.size ≤ bs := by
  obtain ⟨m, rfl⟩ := Int.eq_ofNat_of_zero_le (Int.le_of_lt n0)
  rw [Int.toNat_natCast]
  have hmk := fun w => run_make_row' (P := Tryz.prog) 60 9 (.string ⟨#[]⟩) 16 Tryz.underlying60 info_string rfl .i64 .i64 m (by omega) (by omega) w
  go_enter Tryz.func12, Tryz.ntmps12
  go_wp2
  go_ret
  refine ⟨w.heap.size + 1, w.heap.size, rfl, ⟨?_, ?_, World.ownsRow_nil _ _ _ _, by omega, by simp [Value.ownBlock], by simp [Value.ownBlock]⟩, ?_, by omega, Nat.le_refl _⟩
  · have h := heap_alloc_new (w.alloc (.cells (madeCells #[.string ⟨#[]⟩] m) 9)) (.cells (dcells w.heap.size (.slice none 0 0) (newDk m)) 84)
    have e : (w.alloc (.cells (madeCells #[.string ⟨#[]⟩] m) 9)).heap.size = w.heap.size + 1 := by simp
    rw [e] at h
    simpa [dcells, newDk] using h
  · refine ⟨by simp, .inr ⟨w.heap.size, m, madeCells #[Value.string ⟨#[]⟩] m, by simp [newDk], Nat.zero_le _, ?_, by simp [newDk], by simp [maxLen]; omega, by rw [size_madeCells, Nat.mul_one], ?_⟩⟩
    · rw [Below.heap_alloc _ _ _ (by simp), heap_alloc_new]
    · rw [toList_madeCells_one]
      simp [newDk]
  · exact ((Below.refl _ _).alloc (Nat.le_refl _) _).alloc (by simp) _

/-- A block that is none of the disk's. -/
def Off (w : World) (bd bs : Nat) (lv : Value) (k : Nat) : Prop := k < w.heap.size ∧ k ≠ bd ∧ k ≠ bs ∧ lv.ownBlock ≠ some k
theorem Off.step {w w' : World} {bd bs : Nat} {lv lv' : Value} {k : Nat} (h : Off w bd bs lv k) (st : DStep bd bs lv lv' w w') : Off w' bd bs lv' k ∧ w'.heap[k]? = w.heap[k]? := by
  obtain ⟨h1, h2, h3, h4⟩ := h
  refine ⟨⟨Nat.lt_of_lt_of_le h1 st.size, h2, h3, fun e => ?_⟩, st.block k h1 h2 h3 h4⟩
  rcases st.fresh k e with e | e
  · exact h4 e
  · omega

/-- Puts in memory, off the disk. -/
structure QAt (w : World) (bd bs : Nat) (lv qv : Value) (ps : List (Nat × ByteArray)) : Prop where
  own : w.ownsRow 0 244 2 qv ps.length (flat ps)
  off : ∀ g, qv.ownBlock = some g → Off w bd bs lv g
theorem QAt.step {w w' : World} {bd bs : Nat} {lv lv' qv : Value} {ps : List (Nat × ByteArray)} (h : QAt w bd bs lv qv ps) (st : DStep bd bs lv lv' w w') : QAt w' bd bs lv' qv ps :=
  ⟨ownsRow_kept h.own fun g hg => ((h.off g hg).step st).2, fun g hg => ((h.off g hg).step st).1⟩
theorem row_at {w : World} {e : TypeId} {qv : Value} {ps : List (Nat × ByteArray)} (h : w.ownsRow 0 e 2 qv ps.length (flat ps)) (i : Nat) (p : Nat × ByteArray) (hi : ps[i]? = some p) :
    ∃ g cap, qv = .slice (some ⟨g, 0, none⟩) ps.length cap ∧ w.cell? ⟨g, i * 2, none⟩ = some (.int .i64 (p.1 : Int)) ∧ w.cell? ⟨g, i * 2 + 1, none⟩ = some (.string p.2) ∧ g < w.heap.size := by
  have hl : i < ps.length := by
    rcases Nat.lt_or_ge i ps.length with hlt | hge
    · exact hlt
    · rw [List.getElem?_eq_none hge] at hi; cases hi
  obtain ⟨g, cap, hv, _, hg⟩ := h.form (by omega)
  have hc := h.cells (g := g) (by rw [hv]; rfl)
  have hf := flat_at ps i p hi
  have hadd : ∀ j, (⟨g, 0, none⟩ : Addr).add j = ⟨g, j, none⟩ := fun j => by unfold Addr.add; split <;> simp_all
  refine ⟨g, cap, hv, ?_, ?_, hg⟩
  · rw [← hadd]; exact hc _ _ hf.1
  · rw [← hadd]; exact hc _ _ hf.2

/-- (*Log).Blocks -/
theorem lblocks_any (w : World) (bl bd bs : Nat) (lv : Value) (d : Dk) (hp : w.cell? ⟨bl, 0, none⟩ = some (.pointer (some ⟨bd, 0, none⟩))) (h : DAt w bd bs lv d) (hn : d.safe.length ≤ 4096) :
    Calls Tryz.prog 226 #[.pointer (some ⟨bl, 0, none⟩)] w fun e w' => e = .returned (.int .i64 ((d.safe.length : Int) - 90)) ∧ w' = w := by
  go_enter Tryz.func226, Tryz.ntmps226
  go_wp2_with (go_at_call 71; refine (dblocks_any _ _ _ _ _ h).mono ?_; rintro e w' ⟨rfl, rfl⟩)
  go_ret
  exact ⟨rfl, rfl⟩

/-- (*Log).has -/
def hasB (n : Nat) (a : Int) : Bool := decide (0 ≤ a ∧ a < (n : Int) - 90)
theorem has_any (w : World) (bl bd bs : Nat) (lv : Value) (d : Dk) (a : Int) (hp : w.cell? ⟨bl, 0, none⟩ = some (.pointer (some ⟨bd, 0, none⟩))) (h : DAt w bd bs lv d) (hn : d.safe.length ≤ 4096) :
    Calls Tryz.prog 209 #[.pointer (some ⟨bl, 0, none⟩), .int .i64 a] w fun e w' => e = .returned (.bool (hasB d.safe.length a)) ∧ w' = w := by
  by_cases h0 : 0 ≤ a
  · have HR : Hid (hasB d.safe.length a = decide (a < (d.safe.length : Int) - 90)) := by show hasB d.safe.length a = _; simp [hasB, h0]
    have hd : decide (0 ≤ a) = true := by simpa using h0
    go_enter Tryz.func209, Tryz.ntmps209
    go_wp2_with (go_at_call 226; refine (lblocks_any _ _ _ _ _ _ hp h hn).mono ?_; rintro e w' ⟨rfl, rfl⟩)
    go_ret
    exact ⟨by rw [unhide HR]; rfl, rfl⟩
  · have HR : Hid (hasB d.safe.length a = false) := by show hasB d.safe.length a = _; simp [hasB, h0]
    have hd : decide (0 ≤ a) = false := by simpa using h0
    go_enter Tryz.func209, Tryz.ntmps209
    go_wp2_with fail
    go_ret
    exact ⟨by rw [unhide HR]; rfl, rfl⟩

/-- The closure of find. -/
theorem find1_any (w : World) (B x : Nat) (a : Int) (s : ByteArray) (hB : w.cell? ⟨B, 0, none⟩ = some (.int .i64 a)) :
    Calls Tryz.prog 229 #[.agg #[.int .i64 (x : Int), .string s], .pointer (some ⟨B, 0, none⟩)] w fun e w' => e = .returned (.bool ((x : Int) == a)) ∧ ∃ o, w' = w.alloc o := by
  have hB' : ∀ o, (w.alloc o).cell? ⟨B, 0, none⟩ = some (.int .i64 a) := fun o => (World.cell?_alloc_past _ _ _ (World.block_lt_of_cell? w _ hB)).trans hB
  go_enter Tryz.func229, Tryz.ntmps229
  go_wp2
  go_ret
  exact ⟨rfl, _, rfl⟩

/-- Where a number stands first among those put; -1: nowhere. -/
def idx : List (Nat × ByteArray) → Int → Int
  | [], _ => -1
  | p :: r, a => if (p.1 : Int) = a then 0 else if idx r a < 0 then -1 else idx r a + 1
theorem idx_none : ∀ (l : List (Nat × ByteArray)) (a : Int), (∀ (j : Nat) (p : Nat × ByteArray), l[j]? = some p → (p.1 : Int) ≠ a) → idx l a = -1
  | [], _, _ => rfl
  | p :: r, a, h => by
    have h0 := h 0 p (by simp)
    rw [idx, idx_none r a fun j q hq => h (j + 1) q (by simpa using hq)]
    simp [h0]
theorem idx_hit : ∀ (l : List (Nat × ByteArray)) (a : Int) (i : Nat) (p : Nat × ByteArray), l[i]? = some p → (p.1 : Int) = a → (∀ j q, j < i → l[j]? = some q → (q.1 : Int) ≠ a) → idx l a = (i : Int)
  | [], _, _, _, h, _, _ => by simp at h
  | q :: r, a, 0, p, h, e, hn => by
    simp at h; subst h
    simp [idx, e]
  | q :: r, a, i + 1, p, h, e, hn => by
    have h0 := hn 0 q (by omega) (by simp)
    have ih := idx_hit r a i p (by simpa using h) e fun j q hj hq => hn (j + 1) q (by omega) (by simpa using hq)
    rw [idx, ih, if_neg h0, if_neg (by omega)]
    omega

set_option maxRecDepth 100000 in
set_option maxHeartbeats 1600000 in
theorem indexFunc_any (w : World) (qv : Value) (ps : List (Nat × ByteArray)) (B : Nat) (a : Int) (hq : w.ownsRow 0 244 2 qv ps.length (flat ps)) (hB : w.cell? ⟨B, 0, none⟩ = some (.int .i64 a)) (hl : ps.length ≤ 1000000) :
    Calls Tryz.prog 228 #[qv, .func (.func 229) #[] #[.pointer (some ⟨B, 0, none⟩)]] w fun e w' => e = .returned (.int .i64 (idx ps a)) ∧ Below w.heap.size w w' := by
  obtain ⟨ao, cap, hqv⟩ := ownsRow_form hq
  subst hqv
  have lB := World.block_lt_of_cell? w _ hB
  go_enter Tryz.func228, Tryz.ntmps228
  go_wp2_with fail
  go_loopw [8] (fun i wr => ∃ k : Nat, k ≤ ps.length ∧ i = .int .i64 k ∧ Below w.heap.size w wr ∧ ∀ j p, j < k → ps[j]? = some p → (p.1 : Int) ≠ a) (fun i _ => ps.length - (intOf i).toNat)
  case atStart => exact ⟨0, Nat.zero_le _, rfl, Below.refl _ _, fun j p hj _ => by omega⟩
  case round =>
    obtain ⟨k, hk, rfl, hb, hno⟩ := hrel
    have HN := hide hno
    clear hno
    by_cases hlt : k < ps.length
    · obtain ⟨p, hp⟩ : ∃ p, ps[k]? = some p := ⟨ps[k], List.getElem?_eq_getElem hlt⟩
      obtain ⟨g, capx, he, cA, cB, lg⟩ := row_at hq k p hp
      have hao : ao = some ⟨g, 0, none⟩ := by
        simp only [Value.slice.injEq] at he
        exact he.1
      subst hao
      clear he
      have cA' := (hb.cell (p := ⟨g, k * 2, none⟩) lg).trans cA
      have cB' := (hb.cell (p := ⟨g, k * 2 + 1, none⟩) lg).trans cB
      have hB' := (hb.cell (p := ⟨B, 0, none⟩) lB).trans hB
      have i0 : (0 : Int) ≤ (k : Int) := Int.natCast_nonneg _
      have i1 : (k : Int) < (ps.length : Int) := by omega
      have HP := hide hp
      clear hp
      go_wp2_with fail
      refine (find1_any _ _ _ _ _ hB').mono ?_
      rintro e w1 ⟨rfl, o, rfl⟩
      have hb1 : Below w.heap.size w (wr.alloc o) := hb.alloc hb.size o
      by_cases he : (p.1 : Int) = a
      · have hbe : ((p.1 : Int) == a) = true := by simpa using he
        have HI : Hid (idx ps a = (k : Int)) := idx_hit ps a k p (unhide HP) he (unhide HN)
        clear he
        rw [hbe]
        clear hbe
        go_wp2_with fail
        go_ret
        exact ⟨by rw [unhide HI]; rfl, hb1⟩
      · have hbe : ((p.1 : Int) == a) = false := by simpa using he
        have HK := hide he
        clear he
        rw [hbe]
        clear hbe
        go_wp2_with fail
        go_roundw
        case rel =>
          refine ⟨k + 1, by omega, by go_num, hb1, fun j q hj hq' => ?_⟩
          by_cases hjk : j = k
          · subst hjk
            rw [unhide HP] at hq'
            cases hq'
            exact unhide HK
          · exact (unhide HN) j q (by omega) hq'
        case measure => simp [intOf]; omega
    · have HI : Hid (idx ps a = -1) := idx_none ps a fun j q hq' => (unhide HN) j q (by
        rcases Nat.lt_or_ge j ps.length with h | h
        · omega
        · rw [List.getElem?_eq_none h] at hq'; cases hq') hq'
      go_wp2_with fail
      go_ret
      exact ⟨by rw [unhide HI]; rfl, hb⟩

/-- (*Log).find -/
theorem find_any (w : World) (bl : Nat) (pv : Value) (ps : List (Nat × ByteArray)) (a : Int) (hp : w.cell? ⟨bl, 1, none⟩ = some pv) (hq : w.ownsRow 0 244 2 pv ps.length (flat ps)) (hl : ps.length ≤ 1000000) :
    Calls Tryz.prog 215 #[.pointer (some ⟨bl, 0, none⟩), .int .i64 a] w fun e w' => e = .returned (.int .i64 (idx ps a)) ∧ Below w.heap.size w w' := by
  have hmf : ∀ (fn : Fn) (first cap : Array Value) (w : World), (Instr.makeFunc fn first cap).run Tryz.prog w = .ok (.func fn first cap) w := fun _ _ _ _ => rfl
  have hp' : ∀ o, (w.alloc o).cell? ⟨bl, 1, none⟩ = some pv := fun o => (World.cell?_alloc_past _ _ _ (World.block_lt_of_cell? w _ hp)).trans hp
  go_enter Tryz.func215, Tryz.ntmps215
  go_wp2_with fail
  refine (indexFunc_any _ pv ps w.heap.size a (hq.alloc _) (by rw [cell_of_row _ _ _ _ _ _ (heap_alloc_new w _)]; rfl) hl).mono ?_
  rintro e w1 ⟨rfl, hb⟩
  have hb' : Below w.heap.size w w1 := ((Below.refl _ _).alloc (Nat.le_refl _) _).trans (hb.mono (by simp))
  go_wp2_with fail
  go_ret
  exact ⟨rfl, hb'⟩
end Go.Proofs.YtcbindgpbeaebaaGreatDoor

namespace Go.Proofs.YtcbindgpbeaebaaGreatDoor
open Go.RowKit Go.Deep Go.Lib
attribute [local go_sem ↓] Go.wp_at_zero Go.wp_at_succ

/-- An array of 256 bytes 0, cell by cell. -/
def Z256 : Array Value := (List.replicate 256 (Value.int .u8 0)).toArray
theorem info_arr : (Tryz.prog.info? 273).map (fun i => i.zero) = some (some (.agg Z256)) := by kernel_rfl
theorem zero_arr (w : World) : (zeroValue 273).run Tryz.prog w = .ok (.agg Z256) w := by
  obtain ⟨i, hi, hz⟩ := Option.map_eq_some_iff.1 info_arr
  simp [zeroValue, typeInfo, hi, hz]
theorem info_u8s : (Tryz.prog.info? 5).map (·.size) = some 1 := by kernel_rfl

theorem alloc_setRow (w : World) (cs cs' : Array Value) (t : TypeId) : (w.alloc (.cells cs t (0, 0))).setRow w.heap.size cs' = w.alloc (.cells cs' t (0, 0)) := by
  simp only [World.setRow, World.alloc]
  congr 1
  apply Array.ext_getElem?
  intro i
  rw [Array.getElem?_modify]
  by_cases h : w.heap.size = i
  · subst h; simp
  · simp only [if_neg h]
    rw [Array.getElem?_push, Array.getElem?_push]
    simp [Ne.symm h]
theorem pad_list (s : ByteArray) : (pad s).data.toList = s.data.toList ++ List.replicate (256 - s.size) 0 := by
  rw [pad, ByteArray.data_append, Array.toList_append]
  rfl
theorem pad_len (s : ByteArray) (hs : s.size ≤ 256) : (pad s).data.toList.length = 256 := by
  rw [pad_list, List.length_append, List.length_replicate]
  show s.data.toList.length + _ = _
  rw [Array.length_toList]
  show s.size + _ = _
  omega
theorem Z256_size : Z256.size = 256 := by rw [Z256, List.size_toArray, List.length_replicate]

def bcs (s : ByteArray) : Array Value := (byteCells s.data.toList).toArray
set_option maxRecDepth 100000 in
theorem copy_whole (w : World) (s : ByteArray) (hs : s.size ≤ 256) :
    (Builtin.copy_ #[207, 9] 3 #[.slice (some ⟨w.heap.size, 0, none⟩) 256 256, .string s]).run Tryz.prog (w.alloc (.cells Z256 273)) = .ok (goInt s.size) (w.alloc (.cells (bcs (pad s)) 273)) := by
  have h := run_copy_row_string (P := Tryz.prog) (w.alloc (.cells Z256 273)) 207 9 3 5 w.heap.size 0 256 256 s Z256 273 Tryz.underlying207 info_u8s (heap_alloc_new w _) hs (by rw [Z256_size]; omega)
  rw [h, alloc_setRow]
  have e : (List.take 0 Z256.toList ++ byteCells s.data.toList ++ List.drop (0 + s.size) Z256.toList).toArray = bcs (pad s) := by
    rw [bcs, pad_list, List.take_zero, List.nil_append, Nat.zero_add]
    congr 1
    rw [byteCells, byteCells, List.map_append, List.map_replicate, Z256]
    congr 1
    rw [List.drop_replicate]
    rfl
  rw [e]
set_option maxRecDepth 100000 in
theorem conv_whole (w : World) (s : ByteArray) (hs : s.size ≤ 256) :
    (convert 207 9 (.slice (some ⟨w.heap.size, 0, none⟩) 256 256)).run Tryz.prog (w.alloc (.cells (bcs (pad s)) 273)) = .ok (.string (pad s)) (w.alloc (.cells (bcs (pad s)) 273)) := by
  have hl := pad_len s hs
  have h := run_convert_bytes_back (P := Tryz.prog) (w.alloc (.cells (bcs (pad s)) 273)) 207 9 5 ⟨w.heap.size, 0, none⟩ 256 (pad s).data.toList Tryz.underlying207 Tryz.underlying5 Tryz.underlying9 (fun j hj => by
    have hadd : (⟨w.heap.size, 0, none⟩ : Addr).add j = ⟨w.heap.size, j, none⟩ := by unfold Addr.add; split <;> simp_all
    rw [hadd, cell_of_row _ _ _ _ _ _ (heap_alloc_new w _)]
    rw [bcs, List.getElem?_toArray, byteCells, List.getElem?_map, List.getElem?_eq_getElem hj]
    rfl)
  rw [hl] at h
  exact h

set_option maxRecDepth 100000 in
set_option maxHeartbeats 1600000 in
theorem whole_any (w : World) (s : ByteArray) (hs : s.size ≤ 256) :
    Calls Tryz.prog 227 #[.string s] w fun e w' => e = .returned (.string (pad s)) ∧ ∃ o, w' = w.alloc o := by
  have hz := zero_arr
  have hcp := copy_whole w s hs
  have hcv := conv_whole w s hs
  go_enter Tryz.func227, Tryz.ntmps227
  go_wp2
  go_ret
  exact ⟨rfl, _, rfl⟩
end Go.Proofs.YtcbindgpbeaebaaGreatDoor
