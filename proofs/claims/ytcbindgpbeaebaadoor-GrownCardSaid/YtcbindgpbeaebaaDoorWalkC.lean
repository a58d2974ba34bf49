import Derived.Test.YtcbindgpbeaebaaDoorWalkB
import Derived.LoopTactic
namespace Go.Proofs.YtcbindgpbeaebaaDoor
open Go.RowKit Go.Deep
attribute [local go_sem ↓] Go.wp_at_zero Go.wp_at_succ

theorem ownsRow_form {w : World} {e : TypeId} {size : Nat} {v : Value} {n : Nat} {xs : List Value} (h : w.ownsRow 0 e size v n xs) : ∃ ao cap, v = .slice ao n cap := by
  rcases h.2 with ⟨h1, h2⟩ | ⟨g, cap, _, h1, _⟩
  · exact ⟨none, 0, by rw [h1, h2]⟩
  · exact ⟨_, cap, h1⟩

/-- What is late is laid where it belongs. -/
def lay (safe : List ByteArray) (late : List (Nat × ByteArray)) : List ByteArray := late.foldl (fun s p => s.set p.1 p.2) safe
theorem lay_len (late : List (Nat × ByteArray)) : ∀ safe, (lay safe late).length = safe.length := by
  induction late with
  | nil => intro s; rfl
  | cons p r ih => intro s; show (lay (s.set p.1 p.2) r).length = _; rw [ih]; simp
theorem lay_snoc (safe : List ByteArray) (l : List (Nat × ByteArray)) (p : Nat × ByteArray) : lay safe (l ++ [p]) = (lay safe l).set p.1 p.2 := by simp [lay]

/-- (*Disk).Flush -/
def Dk.flush (d : Dk) : Bool × Dk := if d.changes.1 then (true, { d.changes.2 with safe := lay d.safe d.late, late := [] }) else (false, d.changes.2)

set_option maxRecDepth 100000 in
set_option maxHeartbeats 3200000 in
theorem flush_any (w : World) (bd bs : Nat) (lv : Value) (d : Dk) (h : DAt w bd bs lv d) (ok : d.Ok) (hl : d.late.length ≤ 1000000) :
    Calls Tryd.prog 71 #[.pointer (some ⟨bd, 0, none⟩)] w fun e w' => ∃ lv', e = .returned (.bool d.flush.1) ∧ DAt w' bd bs lv' d.flush.2 ∧ DStep bd bs lv lv' w w' := by
  have hn := ok.n
  have hlt := ok.lt
  cases hc : d.changes.1 with
  | false =>
    have HC := hide hc
    clear hc
    go_enter Tryd.func71, Tryd.ntmps71
    go_wp2_with fail
    refine (changes_any w bd bs lv d h ok).mono ?_
    rintro e w1 ⟨rfl, h1, st, hz⟩
    rw [unhide HC]
    go_wp2_with fail
    go_ret
    exact ⟨lv, by simp [Dk.flush, unhide HC], by simpa [Dk.flush, unhide HC] using h1, st⟩
  | true =>
    have HC := hide hc
    clear hc
    go_enter Tryd.func71, Tryd.ntmps71
    go_wp2_with fail
    refine (changes_any w bd bs lv d h ok).mono ?_
    rintro e w1 ⟨rfl, h1, st, hz⟩
    rw [unhide HC]
    clear hz
    obtain ⟨ao, cap, hlv⟩ := ownsRow_form h1.late
    rw [Dk.changes_late] at hlv
    subst hlv
    generalize hd1 : d.changes.2 = d1 at h1
    have hs1 : d1.safe = d.safe := by rw [← hd1, Dk.changes_safe]
    have hl1 : d1.late = d.late := by rw [← hd1, Dk.changes_late]
    have hcp1 : d1.cap = d.cap := by rw [← hd1, Dk.changes_cap]
    have HCP := hide hcp1
    clear hcp1
    have HD := hide hd1
    have HS := hide hs1
    have HL := hide hl1
    clear hd1 hs1 hl1
    have c1 := h1.c1
    go_wp2_with fail
    go_loopw [4] (fun i wr => ∃ k : Nat, k ≤ d.late.length ∧ i = .int .i64 k ∧ DAt wr bd bs (.slice ao d.late.length cap) { d1 with safe := lay d.safe (d.late.take k) } ∧ DStep bd bs (.slice ao d.late.length cap) (.slice ao d.late.length cap) w1 wr) (fun i _ => d.late.length - (intOf i).toNat)
    case atStart => exact ⟨0, Nat.zero_le _, rfl, by rw [List.take_zero]; show DAt w1 bd bs _ { d1 with safe := d.safe }; rw [← unhide HS]; exact h1, DStep.refl _ _ _ _⟩
    case round =>
      obtain ⟨k, hk, rfl, hr, sr⟩ := hrel
      have r1 := hr.c1
      have rz := hr.fz 1
      by_cases hlt1 : k < d.late.length
      · obtain ⟨p, hp⟩ : ∃ p, d.late[k]? = some p := ⟨d.late[k], List.getElem?_eq_getElem hlt1⟩
        have hpl : p.1 < d.safe.length := hlt p (List.mem_of_getElem? hp)
        obtain ⟨g, capx, he, cA, cB⟩ := hr.lc k p (by show d1.late[k]? = _; rw [unhide HL]; exact hp)
        have hao : ao = some ⟨g, 0, none⟩ := by
          simp only [Value.slice.injEq] at he
          exact he.1
        subst hao
        clear he
        have r0 := hr.c0
        have hll := lay_len (d.late.take k) d.safe
        rw [show (({ d1 with safe := lay d.safe (d.late.take k) } : Dk)).safe.length = d.safe.length from hll, show (({ d1 with safe := lay d.safe (d.late.take k) } : Dk)).cap = d.cap from unhide HCP] at r0
        have rs := hr.fs p.1
        obtain ⟨old, ho⟩ : ∃ s, (lay d.safe (d.late.take k))[p.1]? = some s := ⟨_, List.getElem?_eq_getElem (by omega)⟩
        have rc := hr.sc p.1 old ho
        have gs : ¬ g = bs := fun e => hr.ns (by simp [Value.ownBlock, e])
        have ds : ¬ bd = bs := hr.ne
        have HP := hide hp
        have HO := hide ho
        clear hp ho hll
        have i0 : (0 : Int) ≤ (k : Int) := Int.natCast_nonneg _
        have i1 : (k : Int) < (d.late.length : Int) := by omega
        have j0 : (0 : Int) ≤ (p.1 : Int) := Int.natCast_nonneg _
        have j1 : (p.1 : Int) < (d.safe.length : Int) := by omega
        go_wp2_with fail
        go_region_held3 (fun w' => w'.cell? ⟨bd, 0, none⟩ = some (.slice (some ⟨bs, 0, none⟩) d.safe.length d.cap) ∧ w'.cell? ⟨bd, 1, none⟩ = some (.slice (some ⟨g, 0, none⟩) d.late.length cap) ∧ w'.cell? ⟨g, k * 2, none⟩ = some (.int .i64 (p.1 : Int)) ∧ w'.cell? ⟨g, k * 2 + 1, none⟩ = some (.string p.2)) (first | exact ⟨(cell_set_far _ _ _ _ ds).trans r0, (cell_set_far _ _ _ _ ds).trans r1, (cell_set_far _ _ _ _ gs).trans cA, (cell_set_far _ _ _ _ gs).trans cB⟩ | go_keep) (fail)
        go_wp2
        go_roundw
        case rel =>
          refine ⟨k + 1, by omega, by go_num, ?_, ?_⟩
          · have hE := (hr.setSafe p.1 p.2).drew
            have hts : lay d.safe (d.late.take (k + 1)) = (lay d.safe (d.late.take k)).set p.1 p.2 := by
              rw [List.take_add_one, unhide HP]
              exact lay_snoc _ _ _
            rw [hts]
            exact hE
          · exact (sr.setSafe _ _).drew
        case measure => simp [intOf]; omega
      · have hk' : k = d.late.length := by omega
        have HE : Hid (lay d.safe (d.late.take k) = lay d.safe d.late) := by show lay d.safe (d.late.take k) = _; rw [hk', List.take_length]
        clear hk'
        go_wp2_with fail
        go_ret
        have hE := hr.setLate (.slice none 0 0) [] (World.ownsRow_nil _ _ _ _) (by simp [Value.ownBlock]) (by simp [Value.ownBlock])
        refine ⟨.slice none 0 0, by simp [Dk.flush, unhide HC], ?_, st.trans (sr.trans ?_)⟩
        · rw [unhide HE] at hE
          simpa [Dk.flush, unhide HC, unhide HD] using hE
        · refine ⟨rfl, rfl, rfl, by simp [World.setCell], fun q _ a _ _ => Below.heap_setCell _ _ _ _ a, fun q hq => by simp [Value.ownBlock] at hq⟩

/-- Is a raw number odd? -/
def oddB (c : Int) : Bool := bits BinOp.and IntKind.i64 c 1 == 1
/-- What a crash keeps: of the late writes those whose raw number is odd. -/
def kept : List (Nat × ByteArray) → List Int → List (Nat × ByteArray)
  | p :: r, k :: ks => if oddB k then p :: kept r ks else kept r ks
  | _, _ => []
theorem kept_snoc : ∀ (l : List (Nat × ByteArray)) (ks : List Int) (i : Nat) (p : Nat × ByteArray) (c : Int), l[i]? = some p → ks[i]? = some c →
    kept (l.take (i + 1)) (ks.take (i + 1)) = kept (l.take i) (ks.take i) ++ (if oddB c then [p] else [])
  | [], _, _, _, _, h, _ => by simp at h
  | _ :: _, [], _, _, _, _, h => by simp at h
  | q :: l, k :: ks, 0, p, c, h1, h2 => by
    simp at h1 h2; subst h1 h2
    simp [kept]
  | q :: l, k :: ks, i + 1, p, c, h1, h2 => by
    have ih := kept_snoc l ks i p c (by simpa using h1) (by simpa using h2)
    simp only [List.take_succ_cons, kept]
    split <;> simp [ih]
theorem kept_take_all (l : List (Nat × ByteArray)) (ks : List Int) (n : Nat) (h : l.length ≤ n ∨ ks.length ≤ n) : kept (l.take n) (ks.take n) = kept l ks := by
  induction n generalizing l ks with
  | zero => cases l <;> cases ks <;> simp [kept] at * 
  | succ n ih =>
    match l, ks with
    | [], _ => simp [kept]
    | _ :: _, [] => simp [kept]
    | q :: l, k :: ks =>
      simp only [List.take_succ_cons, kept]
      rw [ih l ks (by simp at h; omega)]

/-- (*Disk).Crash -/
def Dk.crash (d : Dk) (ks : List Int) : Dk := { d with safe := lay d.safe (kept d.late ks), late := [], wait := -1, life := -1 }

/-- A list of numbers that came in. -/
def IntsAt (w : World) (v : Value) (ks : List Int) : Prop :=
  (∃ ao cap, v = .slice ao ks.length cap ∧ ∀ i c, ks[i]? = some c → ∃ b o, ao = some ⟨b, o, none⟩ ∧ w.cell? ⟨b, o + i, none⟩ = some (.int .i64 c)) ∧ ∀ c ∈ ks, -9223372036854775808 ≤ c ∧ c ≤ 9223372036854775807

end Go.Proofs.YtcbindgpbeaebaaDoor
