import Derived.Test.YtcbindgpbeaebaaGreatDoorNodeB
import Derived.Test.YtcbindgpbeaebaaGreatDoorPathA
namespace Go.Proofs.YtcbindgpbeaebaaGreatDoor
open Go.RowKit Go.Deep
attribute [local go_sem ↓] Go.wp_at_zero Go.wp_at_succ

set_option maxRecDepth 100000 in
set_option maxHeartbeats 3200000 in
theorem readSlots_dead (w : World) (bl bd bs : Nat) (pv lv : Value) (ps : List (Nat × ByteArray)) (br : Bool) (d : Dk) (hl : LAt w bl bd pv ps br) (h : DAt w bd bs lv d) (hn : d.safe.length ≤ 4096) (hll : d.late.length ≤ 1000000) (hp : ps.length ≤ 80)
    (hg : getL d ps br ((0 : Nat) : Int) = (⟨#[]⟩, 9)) :
    Calls Tryz.prog 118 #[.pointer (some ⟨bl, 0, none⟩)] w fun e w' => e = .returned (.tuple #[.pointer none, .int .i64 9]) ∧ Below w.heap.size w w' := by
  have HG := hide hg
  clear hg
  go_enter Tryz.func118, Tryz.ntmps118
  go_wp2_with fail
  go_loopw [12] (fun i wr => i = .int .i64 0 ∧ Below w.heap.size w wr) (fun _ _ => 0)
  case atStart => exact ⟨rfl, (Below.refl _ w).alloc (Nat.le_refl _) _⟩
  case round =>
    obtain ⟨rfl, hb⟩ := hrel
    have hlb := hl.below hb
    have hdb := h.below hb
    go_wp2_with fail
    refine (readSlot_dead wr bl bd bs pv lv ps br d 0 hlb hdb hn hll hp (by omega) (unhide HG)).mono ?_
    rintro e w1 ⟨rfl, hb1⟩
    go_wp2_with fail
    go_ret2
    exact ⟨rfl, hb.trans (hb1.mono hb.size)⟩

/-- A base in memory. -/
structure BAt (w : World) (bb bl : Nat) (bk : Bool) : Prop where
  own : w.heap[bb]? = some (.cells #[.pointer (some ⟨bl, 0, none⟩), .bool bk] 143 (0, 0))
theorem BAt.lt {w : World} {bb bl : Nat} {bk : Bool} (h : BAt w bb bl bk) : bb < w.heap.size := lt_of_heap h.own
theorem BAt.c0 {w : World} {bb bl : Nat} {bk : Bool} (h : BAt w bb bl bk) : w.cell? ⟨bb, 0, none⟩ = some (.pointer (some ⟨bl, 0, none⟩)) := by rw [cell_of_row w bb 0 _ _ _ h.own]; rfl
theorem BAt.c1 {w : World} {bb bl : Nat} {bk : Bool} (h : BAt w bb bl bk) : w.cell? ⟨bb, 1, none⟩ = some (.bool bk) := by rw [cell_of_row w bb 1 _ _ _ h.own]; rfl
theorem BAt.fz {w : World} {bb bl : Nat} {bk : Bool} (h : BAt w bb bl bk) (i : Nat) : w.frozen? ⟨bb, i, none⟩ = false := frozen_of_row w bb i _ _ h.own
theorem BAt.kept {w w' : World} {bb bl : Nat} {bk : Bool} (h : BAt w bb bl bk) (hk : w'.heap[bb]? = w.heap[bb]?) : BAt w' bb bl bk := ⟨hk.trans h.own⟩

theorem load_broken (w : World) (bb bl : Nat) (h : BAt w bb bl true) :
    Calls Tryz.prog 76 #[.pointer (some ⟨bb, 0, none⟩)] w fun e w' => e = .returned (.tuple #[.pointer none, .int .i64 9]) ∧ w' = w := by
  have c1 := h.c1
  go_enter Tryz.func76, Tryz.ntmps76
  go_wp2_with fail
  go_ret2
  exact ⟨rfl, rfl⟩
theorem load_dead (w : World) (bb bl bd bs : Nat) (pv lv : Value) (ps : List (Nat × ByteArray)) (br : Bool) (d : Dk) (hB : BAt w bb bl false) (hl : LAt w bl bd pv ps br) (h : DAt w bd bs lv d) (hn : d.safe.length ≤ 4096) (hll : d.late.length ≤ 1000000) (hp : ps.length ≤ 80)
    (hg : getL d ps br ((0 : Nat) : Int) = (⟨#[]⟩, 9)) :
    Calls Tryz.prog 76 #[.pointer (some ⟨bb, 0, none⟩)] w fun e w' => e = .returned (.tuple #[.pointer none, .int .i64 9]) ∧ Below w.heap.size w w' := by
  have c0 := hB.c0
  have c1 := hB.c1
  have HG := hide hg
  clear hg
  go_enter Tryz.func76, Tryz.ntmps76
  go_wp2_with fail
  refine (readSlots_dead w bl bd bs pv lv ps br d hl h hn hll hp (unhide HG)).mono ?_
  rintro e w1 ⟨rfl, hb1⟩
  go_wp2_with fail
  go_ret2
  exact ⟨rfl, hb1⟩
theorem load_ok (w : World) (bb bl bd bs : Nat) (pv lv : Value) (ps : List (Nat × ByteArray)) (br : Bool) (d : Dk) (V : Nat → ByteArray) (hB : BAt w bb bl false) (hl : LAt w bl bd pv ps br) (h : DAt w bd bs lv d) (hn : d.safe.length ≤ 4096) (hll : d.late.length ≤ 1000000) (hp : ps.length ≤ 80)
    (hV : ∀ i, i < 120 → getL d ps br ((i : Nat) : Int) = (V i, 0) ∧ (V i).size = 256) :
    Calls Tryz.prog 76 #[.pointer (some ⟨bb, 0, none⟩)] w (LoadPost w (loadM V 60)) := by
  have c0 := hB.c0
  have c1 := hB.c1
  have HV := hide hV
  clear hV
  go_enter Tryz.func76, Tryz.ntmps76
  go_wp2_with fail
  refine (readSlots_ok w bl bd bs pv lv ps br d V hl h hn hll hp (unhide HV)).mono ?_
  rintro e w1 ⟨bm, ev, rfl, hM, hb1⟩
  go_wp2_with fail
  go_ret2
  exact ⟨bm, ev, rfl, hM, hb1⟩

/-! ### A slot is filled, and cleared -/
theorem clearSlot_any (w : World) (bl bd bs : Nat) (pv lv : Value) (ps : List (Nat × ByteArray)) (br : Bool) (d : Dk) (slot : Nat) (hl : LAt w bl bd pv ps br) (h : DAt w bd bs lv d) (hn : d.safe.length ≤ 4096) (hp : ps.length ≤ 80) (hs : slot < 60) :
    Calls Tryz.prog 189 #[.pointer (some ⟨bl, 0, none⟩), .int .i64 (slot : Int)] w fun e w' => ∃ pv', e = .returned (.int .i64 (putL d.safe.length ps ((2 * slot : Nat) : Int) ⟨#[]⟩).1) ∧ LAt w' bl bd pv' (putL d.safe.length ps ((2 * slot : Nat) : Int) ⟨#[]⟩).2 br ∧ DStep bl bl pv pv' w w' := by
  have e0 : (slot : Int) * 2 = ((2 * slot : Nat) : Int) := by omega
  go_enter Tryz.func189, Tryz.ntmps189
  go_wp2_with fail
  refine (put_any w bl bd bs pv lv ps br d ((2 * slot : Nat) : Int) ⟨#[]⟩ hl h hn hp).mono ?_
  rintro e w1 ⟨pv1, rfl, h1, st⟩
  go_wp2_with fail
  go_ret
  exact ⟨pv1, rfl, h1, st⟩
end Go.Proofs.YtcbindgpbeaebaaGreatDoor

namespace Go.Proofs.YtcbindgpbeaebaaGreatDoor
open Go.RowKit Go.Deep
attribute [local go_sem ↓] Go.wp_at_zero Go.wp_at_succ

/-- A block among those that were put. -/
def putP (ps : List (Nat × ByteArray)) (a : Nat) (s : ByteArray) : List (Nat × ByteArray) :=
  if 0 ≤ idx ps (a : Int) then ps.set (idx ps (a : Int)).toNat (a, pad s) else ps ++ [(a, pad s)]
theorem putL_ok {n : Nat} {ps : List (Nat × ByteArray)} {a : Nat} {s : ByteArray} (hn : a + 90 < n) (hs : s.size ≤ 256) (hp : ps.length < 80) : putL n ps (a : Int) s = (0, putP ps a s) := by
  have h1 : hasB n (a : Int) = true := by simp [hasB]; omega
  unfold putL putP
  rw [h1, if_neg (by simp; omega)]
  split
  · rfl
  · rw [if_neg (by omega)]; rfl
theorem putP_len (ps : List (Nat × ByteArray)) (a : Nat) (s : ByteArray) : (putP ps a s).length ≤ ps.length + 1 := by
  unfold putP
  split <;> simp
/-- Both blocks of a slot. -/
def put2 (ps : List (Nat × ByteArray)) (slot : Nat) (t : ByteArray) : List (Nat × ByteArray) :=
  putP (putP ps (2 * slot) (t.extract 0 (min t.size 256))) (2 * slot + 1) (t.extract (min t.size 256) t.size)

theorem enc_size (n : Nd) : (enc n).size = 7 + n.path.size + n.data.size := by
  unfold enc
  rw [ByteArray.size_append, ByteArray.size_append]
  rfl
theorem extract_all (t : ByteArray) : t.extract 0 t.size = t := by
  apply bytes_ext
  rw [Lib.extract_data, Lib.size_eq, Nat.sub_zero, List.drop_zero, List.take_length]
theorem extract_none (t : ByteArray) : t.extract t.size t.size = ⟨#[]⟩ := by
  apply bytes_ext
  rw [Lib.extract_data]
  simp
def FillPost (w : World) (B bl bd bs : Nat) (pv lv : Value) (ps : List (Nat × ByteArray)) (br : Bool) (d : Dk) (e : Ending) (w' : World) : Prop :=
  ∃ pv', e = .returned (.int .i64 0) ∧ Sys w' B bl bd bs pv' lv ps br d ∧ DStep bl bl pv pv' w w'

set_option maxRecDepth 100000 in
set_option maxHeartbeats 6400000 in
theorem fillSlot_any (w : World) (B bl bd bs : Nat) (pv lv : Value) (ps : List (Nat × ByteArray)) (br : Bool) (d : Dk) (slot : Nat) (n : Nd) (s : Sys w B bl bd bs pv lv ps br d) (hn : d.safe.length ≤ 4096) (hn3 : 300 ≤ d.safe.length) (hp : ps.length ≤ 78) (hs : slot < 60)
    (hk : 0 ≤ n.kind ∧ n.kind < 256) (hm : 0 ≤ n.mode ∧ n.mode < 512) (htg : 0 ≤ n.tag ∧ n.tag < 256) (hpz : n.path.size ≤ 60) (hdz : n.data.size ≤ 400) :
    Calls Tryz.prog 192 #[.pointer (some ⟨bl, 0, none⟩), .int .i64 (slot : Int), ndV n] w (FillPost w B bl bd bs pv lv (put2 ps slot (enc n)) br d) := by
  have hsz := enc_size n
  have henc := fun w => encode_any w n hk hm htg (by omega) hdz
  unfold ndV at henc ⊢
  obtain ⟨t, ht⟩ : ∃ t, t = enc n := ⟨_, rfl⟩
  rw [← ht] at hsz henc ⊢
  have ht512 : t.size ≤ 512 := by omega
  have HE := hide henc
  clear henc hsz ht
  have h1 : ∀ (w : World) (pv : Value), Sys w B bl bd bs pv lv ps br d → ∀ x : ByteArray, x.size ≤ 256 → Calls Tryz.prog 213 #[.pointer (some ⟨bl, 0, none⟩), .int .i64 ((slot : Int) * 2), .string x] w (FillPost w B bl bd bs pv lv (putP ps (2 * slot) x) br d) := fun w pv s x hx => by
    have hq := putL_ok (n := d.safe.length) (ps := ps) (a := 2 * slot) (s := x) (by omega) hx (by omega)
    have e : ((2 * slot : Nat) : Int) = (slot : Int) * 2 := by omega
    rw [e] at hq
    refine (put_any w bl bd bs pv lv ps br d ((slot : Int) * 2) x s.log s.disk hn (by omega)).mono ?_
    rintro e w1 ⟨pv1, rfl, hl1, st⟩
    rw [hq] at hl1 ⊢
    exact ⟨pv1, rfl, (s.ofLog hl1 st).1, st⟩
  have h2 : ∀ (w : World) (pv : Value) (qs : List (Nat × ByteArray)), qs.length < 80 → Sys w B bl bd bs pv lv qs br d → ∀ x : ByteArray, x.size ≤ 256 → Calls Tryz.prog 213 #[.pointer (some ⟨bl, 0, none⟩), .int .i64 ((slot : Int) * 2 + 1), .string x] w (FillPost w B bl bd bs pv lv (putP qs (2 * slot + 1) x) br d) := fun w pv qs hqs s x hx => by
    have hq := putL_ok (n := d.safe.length) (ps := qs) (a := 2 * slot + 1) (s := x) (by omega) hx hqs
    have e : ((2 * slot + 1 : Nat) : Int) = (slot : Int) * 2 + 1 := by omega
    rw [e] at hq
    refine (put_any w bl bd bs pv lv qs br d ((slot : Int) * 2 + 1) x s.log s.disk hn (by omega)).mono ?_
    rintro e w1 ⟨pv1, rfl, hl1, st⟩
    rw [hq] at hl1 ⊢
    exact ⟨pv1, rfl, (s.ofLog hl1 st).1, st⟩
  obtain ⟨r, hr⟩ : ∃ r, r = t.extract (min t.size 256) t.size := ⟨_, rfl⟩
  obtain ⟨p1, hp1⟩ : ∃ p1, p1 = t.extract 0 (min t.size 256) := ⟨_, rfl⟩
  obtain ⟨P1, hP1⟩ : ∃ P1, P1 = putP ps (2 * slot) p1 := ⟨_, rfl⟩
  obtain ⟨P2, hP2⟩ : ∃ P2, P2 = putP P1 (2 * slot + 1) r := ⟨_, rfl⟩
  have e2 : put2 ps slot t = P2 := by rw [hP2, hP1, hr, hp1]; rfl
  rw [e2]
  have hpl : P1.length ≤ ps.length + 1 := by rw [hP1]; exact putP_len _ _ _
  have hrz : r.size ≤ 256 := by rw [hr, ByteArray.size_extract]; omega
  have hpz1 : p1.size ≤ 256 := by rw [hp1, ByteArray.size_extract]; omega
  have k1 : ∀ (w : World) (pv : Value), Sys w B bl bd bs pv lv ps br d → Calls Tryz.prog 213 #[.pointer (some ⟨bl, 0, none⟩), .int .i64 ((slot : Int) * 2), .string p1] w (FillPost w B bl bd bs pv lv P1 br d) := fun w pv s => by rw [hP1]; exact h1 w pv s p1 hpz1
  have k2 : ∀ (w : World) (pv : Value), Sys w B bl bd bs pv lv P1 br d → Calls Tryz.prog 213 #[.pointer (some ⟨bl, 0, none⟩), .int .i64 ((slot : Int) * 2 + 1), .string r] w (FillPost w B bl bd bs pv lv P2 br d) := fun w pv s => by rw [hP2]; exact h2 w pv P1 (by omega) s r hrz
  have hcase : (t.size ≤ 256 ∧ p1 = t ∧ r = t.extract t.size t.size) ∨ (256 < t.size ∧ p1 = t.extract 0 256 ∧ r = t.extract 256 t.size) := by
    by_cases hA : t.size ≤ 256
    · refine .inl ⟨hA, ?_, ?_⟩
      · rw [hp1, show min t.size 256 = t.size by omega, extract_all]
      · rw [hr, show min t.size 256 = t.size by omega]
    · refine .inr ⟨by omega, ?_, ?_⟩
      · rw [hp1, show min t.size 256 = 256 by omega]
      · rw [hr, show min t.size 256 = 256 by omega]
  have hend : r.extract r.size r.size = ⟨#[]⟩ := extract_none r
  have HEND := hide hend
  have HK1 := hide k1
  have HK2 := hide k2
  have HCASE := hide hcase
  clear h1 h2 hr hp1 hP1 hP2 e2 k1 k2 hcase hend
  go_enter Tryz.func192, Tryz.ntmps192
  go_wp2_with fail
  refine ((unhide HE) _).mono ?_
  rintro e w1 ⟨rfl, hb1⟩
  have hb : Below w.heap.size w w1 := ((Below.refl _ w).alloc (Nat.le_refl _) _).trans (hb1.mono (by simp))
  have HB := hide hb
  clear hb hb1
  go_wp2_with fail
  go_loopw [7, 13] (fun tv i wr => ∃ pvk, DStep bl bl pv pvk w wr ∧ ((i = .int .i64 0 ∧ tv = .string t ∧ Sys wr B bl bd bs pvk lv ps br d) ∨ (i = .int .i64 1 ∧ tv = .string r ∧ Sys wr B bl bd bs pvk lv P1 br d) ∨ (i = .int .i64 2 ∧ Sys wr B bl bd bs pvk lv P2 br d ∧ ∃ x, tv = .string x))) (fun _ i _ => 2 - (intOf i).toNat)
  case atStart => exact ⟨pv, DStep.ofBelow (unhide HB), .inl ⟨rfl, rfl, (s.ofLog (s.log.below (unhide HB)) (DStep.ofBelow (unhide HB))).1⟩⟩
  case round =>
    obtain ⟨pvk, st, ⟨rfl, rfl, hsk⟩ | ⟨rfl, rfl, hsk⟩ | ⟨rfl, hsk, x, rfl⟩⟩ := hrel
    · rcases unhide HCASE with ⟨hA, hp1, hr⟩ | ⟨hA, hp1, hr⟩
      · have hA' : (t.size : Int) ≤ 256 := by omega
        have hc := (unhide HK1) wr pvk hsk
        rw [hp1] at hc
        have HC := hide hc
        have HR := hide hr
        clear hc hr hp1
        go_wp2_with fail
        refine (unhide HC).mono ?_
        rintro e w2 ⟨pv2, rfl, s2, st2⟩
        go_wp2_with fail
        go_roundw
        case rel => exact ⟨pv2, st.trans st2, .inr (.inl ⟨by go_num, by rw [unhide HR, extract_none]; rfl, s2⟩)⟩
        case measure => simp [intOf]
      · have hA' : (256 : Int) < (t.size : Int) := by omega
        have hA2 : (256 : Int) ≤ (t.size : Int) := by omega
        have hc := (unhide HK1) wr pvk hsk
        rw [hp1] at hc
        have HC := hide hc
        have HR := hide hr
        clear hc hr hp1
        go_wp2_with fail
        refine (unhide HC).mono ?_
        rintro e w2 ⟨pv2, rfl, s2, st2⟩
        go_wp2_with fail
        go_roundw
        case rel => exact ⟨pv2, st.trans st2, .inr (.inl ⟨by go_num, by rw [unhide HR], s2⟩)⟩
        case measure => simp [intOf]
    · have hrz' : (r.size : Int) ≤ 256 := by omega
      have hc := (unhide HK2) wr pvk hsk
      have HC := hide hc
      clear hc
      go_wp2_with fail
      refine (unhide HC).mono ?_
      rintro e w2 ⟨pv2, rfl, s2, st2⟩
      go_wp2_with fail
      go_roundw
      case rel => exact ⟨pv2, st.trans st2, .inr (.inr ⟨by go_num, s2, _, rfl⟩)⟩
      case measure => simp [intOf]
    · go_wp2_with fail
      go_ret
      exact ⟨pvk, rfl, hsk, st⟩
end Go.Proofs.YtcbindgpbeaebaaGreatDoor

namespace Go.Proofs.YtcbindgpbeaebaaGreatDoor
open Go.RowKit Go.Deep
attribute [local go_sem ↓] Go.wp_at_zero Go.wp_at_succ

/-! ### Blocks of other types are other blocks -/
theorem ty_ne {w : World} {a b : Nat} {cs cs' : Array Value} {t t' : TypeId} {fr fr' : Nat × Nat} (ha : w.heap[a]? = some (.cells cs t fr)) (hb : w.heap[b]? = some (.cells cs' t' fr')) (h : t ≠ t') : a ≠ b := by
  intro e
  subst e
  rw [ha] at hb
  simp only [Option.some.injEq, Obj.cells.injEq] at hb
  exact h hb.2.1
theorem row_blk {w : World} {b : Nat} {e : TypeId} {size : Nat} {v : Value} {n : Nat} {xs : List Value} (h : w.ownsRow b e size v n xs) {g : Nat} (hg : v.ownBlock = some g) : ∃ cur, w.heap[g]? = some (.cells cur e (0, 0)) := by
  rcases h.2 with ⟨e1, _⟩ | ⟨g', cap, cur, e1, _, hh, _⟩
  · rw [e1] at hg; cases hg
  · rw [e1] at hg
    have : g' = g := by simpa [Value.ownBlock] using hg
    subst this
    exact ⟨cur, hh⟩
theorem row_ty {w : World} {b : Nat} {e : TypeId} {size : Nat} {v : Value} {n : Nat} {xs : List Value} (h : w.ownsRow b e size v n xs) {k : Nat} {cs : Array Value} {t : TypeId} {fr : Nat × Nat} (hk : w.heap[k]? = some (.cells cs t fr)) (hne : e ≠ t) : v.ownBlock ≠ some k := fun hg => by
  obtain ⟨cur, hc⟩ := row_blk h hg
  exact ty_ne hc hk hne rfl
/-- Blocks that a transaction leaves alone. -/
abbrev Kp := List (Nat × Array Value × TypeId)
/-- A transaction that is under way, and the nodes as it has left them. -/
structure Tx (K : Kp) (w0 w : World) (B bl bd bs : Nat) (pv0 pv lv : Value) (ps : List (Nat × ByteArray)) (d : Dk) (bm : Nat) (ev : Value) (M : List Pl) : Prop where
  sys : Sys w B bl bd bs pv lv ps false d
  map : MAt w w0.heap.size bm ev M
  st : DStep bl bl pv0 pv w0 w
  keep : ∀ x ∈ K, w.heap[x.1]? = some (.cells x.2.1 x.2.2 (0, 0)) ∧ x.2.2 ≠ 194 ∧ x.2.2 ≠ 191 ∧ x.2.2 ≠ 183 ∧ x.2.2 ≠ 244
section
variable {K : Kp} {w0 w w' : World} {B bl bd bs : Nat} {pv0 pv lv : Value} {ps : List (Nat × ByteArray)} {d : Dk} {bm : Nat} {ev : Value} {M : List Pl}
theorem Tx.size (h : Tx K w0 w B bl bd bs pv0 pv lv ps d bm ev M) : w0.heap.size ≤ w.heap.size := h.st.size
theorem sys_kept {br : Bool} (s : Sys w B bl bd bs pv lv ps br d) (hsz : w.heap.size ≤ w'.heap.size) (hk : ∀ k, k < w.heap.size → (∀ cs t, w.heap[k]? = some (.cells cs t (0, 0)) → t ≠ 194 ∧ t ≠ 191) → w'.heap[k]? = w.heap[k]?) : Sys w' B bl bd bs pv lv ps br d := by
  obtain ⟨cur, hbs, _⟩ := s.disk.sb
  have go : ∀ (k : Nat) (cs : Array Value) (t : TypeId), w.heap[k]? = some (.cells cs t (0, 0)) → t ≠ 194 → t ≠ 191 → w'.heap[k]? = w.heap[k]? := fun k cs t hc h1 h2 => hk k (lt_of_heap hc) fun cs' t' hc' => by
    rw [hc] at hc'
    simp only [Option.some.injEq, Obj.cells.injEq] at hc'
    rw [← hc'.2.1]
    exact ⟨h1, h2⟩
  refine ⟨s.log.kept fun k hk' e => ?_, s.disk.kept fun k hk' e => ?_, s.sep, Nat.le_trans s.base hsz⟩
  · rcases e with rfl | e
    · exact go _ _ _ s.log.own (by decide) (by decide)
    · obtain ⟨c, hc⟩ := row_blk s.log.puts e
      exact go _ _ _ hc (by decide) (by decide)
  · rcases e with rfl | rfl | e
    · exact go _ _ _ s.disk.own (by decide) (by decide)
    · exact go _ _ _ hbs (by decide) (by decide)
    · obtain ⟨c, hc⟩ := row_blk s.disk.late e
      exact go _ _ _ hc (by decide) (by decide)
theorem Tx.below (h : Tx K w0 w B bl bd bs pv0 pv lv ps d bm ev M) (hb : Below w.heap.size w w') : Tx K w0 w' B bl bd bs pv0 pv lv ps d bm ev M :=
  ⟨sys_kept h.sys hb.size fun k hk _ => hb.block k hk, h.map.below hb, h.st.trans (DStep.ofBelow hb), fun x hx => ⟨(hb.block _ (lt_of_heap (h.keep x hx).1)).trans (h.keep x hx).1, (h.keep x hx).2⟩⟩
/-- The map is turned. -/
theorem Tx.turnMap (h : Tx K w0 w B bl bd bs pv0 pv lv ps d bm ev M) {ev' : Value} {M' : List Pl} (hM : MAt w' w0.heap.size bm ev' M') (st : DStep bm bm ev ev' w w') : Tx K w0 w' B bl bd bs pv0 pv lv ps d bm ev' M' := by
  refine ⟨sys_kept h.sys st.size fun k hk ht => st.block k hk ?_ ?_ ?_, hM, ?_, fun x hx => ?_⟩
  · intro e; subst e; exact (ht _ _ h.map.own).1 rfl
  · intro e; subst e; exact (ht _ _ h.map.own).1 rfl
  · intro e
    obtain ⟨c, hc⟩ := row_blk h.map.row e
    exact (ht _ _ hc).2 rfl
  · refine ⟨st.os.trans h.st.os, st.tape.trans h.st.tape, st.output.trans h.st.output, Nat.le_trans h.st.size st.size, fun k hk h1 h2 h3 => ?_, h.st.fresh⟩
    have hm0 := h.map.b0
    have hsz := h.st.size
    rw [st.block k (by omega) (by omega) (by omega) (fun e => by have := (h.map.row.lt k e).1; omega), h.st.block k hk h1 h2 h3]
  · obtain ⟨k1, k2, k3, k4, k5⟩ := h.keep x hx
    exact ⟨(st.block _ (lt_of_heap k1) (ty_ne k1 h.map.own k2) (ty_ne k1 h.map.own k2) (row_ty h.map.row k1 (Ne.symm k3))).trans k1, k2, k3, k4, k5⟩
/-- The log is turned. -/
theorem Tx.turnLog (h : Tx K w0 w B bl bd bs pv0 pv lv ps d bm ev M) {pv' : Value} {ps' : List (Nat × ByteArray)} (s' : Sys w' B bl bd bs pv' lv ps' false d) (st : DStep bl bl pv pv' w w') : Tx K w0 w' B bl bd bs pv0 pv' lv ps' d bm ev M := by
  refine ⟨s', h.map.kept fun k hk e => st.block k hk ?_ ?_ ?_, h.st.trans st, fun x hx => ?_⟩
  case refine_4 =>
    obtain ⟨k1, k2, k3, k4, k5⟩ := h.keep x hx
    exact ⟨(st.block _ (lt_of_heap k1) (ty_ne k1 h.sys.log.own k4) (ty_ne k1 h.sys.log.own k4) (row_ty h.sys.log.puts k1 (Ne.symm k5))).trans k1, k2, k3, k4, k5⟩
  all_goals
    obtain ⟨c, t, hc, ht⟩ : ∃ c t, w.heap[k]? = some (.cells c t (0, 0)) ∧ (t = 194 ∨ t = 191) := by
      rcases e with rfl | e
      · exact ⟨_, _, h.map.own, .inl rfl⟩
      · obtain ⟨c, hc⟩ := row_blk h.map.row e
        exact ⟨_, _, hc, .inr rfl⟩
  · exact ty_ne hc h.sys.log.own (by rcases ht with rfl | rfl <;> decide)
  · exact ty_ne hc h.sys.log.own (by rcases ht with rfl | rfl <;> decide)
  · exact row_ty h.sys.log.puts hc (by rcases ht with rfl | rfl <;> decide)
end

/-- The work, as a value. -/
def wkV (bl bm : Nat) : Value := .agg #[.pointer (some ⟨bl, 0, none⟩), .pointer (some ⟨bm, 0, none⟩)]

/-- Why a path has no directory to stand in; 0: it has one. -/
def chk (M : List Pl) (q : ByteArray) : Int := if (parentB q).size = 0 then 0 else match getM M (parentB q) with
  | none => 4
  | some p => if p.node.kind = 2 then 0 else 6

set_option maxRecDepth 100000 in
set_option maxHeartbeats 3200000 in
theorem checkParent_any (w : World) (B bl bm : Nat) (ev : Value) (M : List Pl) (q : ByteArray) (h : MAt w B bm ev M) (hord : Ord M) (hm : M.length ≤ 1000) (hq : q.size ≤ 4611686018427387904) :
    Calls Tryz.prog 190 #[wkV bl bm, .string q] w fun e w' => e = .returned (.int .i64 (chk M q)) ∧ Below w.heap.size w w' := by
  unfold wkV
  obtain ⟨up, hup⟩ : ∃ up, up = parentB q := ⟨_, rfl⟩
  have hP := fun w => Parent_any w q hq
  have hck : chk M q = if up.size = 0 then 0 else match getM M up with
    | none => 4
    | some p => if p.node.kind = 2 then 0 else 6 := by rw [hup]; rfl
  rw [← hup] at hP
  clear hup
  have hE := isEmpty_size up
  by_cases h0 : up.size = 0
  · rw [if_pos h0] at hck
    rw [decide_eq_true h0] at hE
    have HK := hide hck
    clear hck
    go_enter Tryz.func190, Tryz.ntmps190
    go_wp2_with fail
    refine (hP _).mono ?_
    rintro e w1 ⟨rfl, rfl⟩
    go_wp2_with fail
    go_ret
    exact ⟨by rw [unhide HK]; rfl, (Below.refl _ w).alloc (Nat.le_refl _) _⟩
  · rw [if_neg h0] at hck
    rw [decide_eq_false h0] at hE
    have hg := mget_any (w.alloc (.cells #[.pointer (some ⟨bl, 0, none⟩), .pointer (some ⟨bm, 0, none⟩)] 186)) B bm ev M up (h.below ((Below.refl _ w).alloc (Nat.le_refl _) _)) hord (by omega)
    have HG := hide hg
    clear hg
    cases hgm : getM M up with
    | none =>
      rw [hgm] at hck
      have HK := hide (show chk M q = 4 from hck)
      have HGM := hide hgm
      clear hck hgm
      go_enter Tryz.func190, Tryz.ntmps190
      go_wp2_with fail
      refine (hP _).mono ?_
      rintro e w1 ⟨rfl, rfl⟩
      go_wp2_with fail
      refine (unhide HG).mono ?_
      rintro e w2 ⟨rfl, hb2⟩
      rw [unhide HGM]
      unfold optPl zPl
      rw [show (none : Option Pl).isSome = false from rfl]
      go_wp2_with fail
      go_ret
      have hB2 : Below w.heap.size w w2 := ((Below.refl _ w).alloc (Nat.le_refl _) _).trans (hb2.mono (by simp))
      exact ⟨by rw [unhide HK]; rfl, hB2.alloc hB2.size _⟩
    | some p =>
      rw [hgm] at hck
      have HK := hide (show chk M q = if p.node.kind = 2 then 0 else 6 from hck)
      have HGM := hide hgm
      clear hck hgm
      by_cases hk : p.node.kind = 2
      · have HKK := hide ((unhide HK).trans (if_pos hk))
        go_enter Tryz.func190, Tryz.ntmps190
        go_wp2_with fail
        refine (hP _).mono ?_
        rintro e w1 ⟨rfl, rfl⟩
        go_wp2_with fail
        refine (unhide HG).mono ?_
        rintro e w2 ⟨rfl, hb2⟩
        rw [unhide HGM]
        unfold optPl plV
        rw [show (some p : Option Pl).isSome = true from rfl]
        go_wp2_with fail
        go_ret
        have hB2 : Below w.heap.size w w2 := ((Below.refl _ w).alloc (Nat.le_refl _) _).trans (hb2.mono (by simp))
        exact ⟨by rw [unhide HKK]; rfl, hB2.alloc hB2.size _⟩
      · have HKK := hide ((unhide HK).trans (if_neg hk))
        go_enter Tryz.func190, Tryz.ntmps190
        go_wp2_with fail
        refine (hP _).mono ?_
        rintro e w1 ⟨rfl, rfl⟩
        go_wp2_with fail
        refine (unhide HG).mono ?_
        rintro e w2 ⟨rfl, hb2⟩
        rw [unhide HGM]
        unfold optPl plV
        rw [show (some p : Option Pl).isSome = true from rfl]
        go_wp2_with fail
        go_ret
        have hB2 : Below w.heap.size w w2 := ((Below.refl _ w).alloc (Nat.le_refl _) _).trans (hb2.mono (by simp))
        exact ⟨by rw [unhide HKK]; rfl, hB2.alloc hB2.size _⟩
end Go.Proofs.YtcbindgpbeaebaaGreatDoor

namespace Go.Proofs.YtcbindgpbeaebaaGreatDoor
open Go.RowKit Go.Deep
attribute [local go_sem ↓] Go.wp_at_zero Go.wp_at_succ

/-- Why a node can't be put; 0: it can. -/
def putErr (M : List Pl) (n : Nd) : Int := if chk M n.path ≠ 0 then chk M n.path else match getM M n.path with
  | some old => if old.node.kind ≠ n.kind then 6 else 0
  | none => if 60 ≤ M.length then 8 else 0
/-- A slot for a node: that of what it replaces, or a free one. -/
def SlotFor (M : List Pl) (n : Nd) (slot : Nat) : Prop := slot < 60 ∧ ((∃ old, getM M n.path = some old ∧ old.slot = slot) ∨ (getM M n.path = none ∧ ∀ p ∈ M, p.slot ≠ slot))
def PutPost (K : Kp) (w0 : World) (B bl bd bs : Nat) (pv0 pv lv : Value) (ps : List (Nat × ByteArray)) (d : Dk) (bm : Nat) (ev : Value) (M : List Pl) (n : Nd) (e : Ending) (w' : World) : Prop :=
  e = .returned (.int .i64 (putErr M n)) ∧ ((putErr M n ≠ 0 ∧ Tx K w0 w' B bl bd bs pv0 pv lv ps d bm ev M) ∨
    (putErr M n = 0 ∧ ∃ slot pv' ev', SlotFor M n slot ∧ Tx K w0 w' B bl bd bs pv0 pv' lv (put2 ps slot (enc n)) d bm ev' (insM M ⟨slot, n⟩)))

/-- The two boxes of a call: of the work, of the node. -/
structure Two (w : World) (b bl bm : Nat) (n : Nd) : Prop where
  b0 : w.heap[b]? = some (.cells #[.pointer (some ⟨bl, 0, none⟩), .pointer (some ⟨bm, 0, none⟩)] 186 (0, 0))
  b1 : w.heap[b + 1]? = some (.cells #[.string n.path, .int .i64 n.kind, .int .i64 n.mode, .int .i64 n.tag, .string n.data] 76 (0, 0))
theorem Two.cells {w : World} {b bl bm : Nat} {n : Nd} (h : Two w b bl bm n) : w.cell? ⟨b, 0, none⟩ = some (.pointer (some ⟨bl, 0, none⟩)) ∧ w.cell? ⟨b, 1, none⟩ = some (.pointer (some ⟨bm, 0, none⟩)) ∧
    w.cell? ⟨b + 1, 0, none⟩ = some (.string n.path) ∧ w.cell? ⟨b + 1, 1, none⟩ = some (.int .i64 n.kind) ∧ w.cell? ⟨b + 1, 2, none⟩ = some (.int .i64 n.mode) ∧ w.cell? ⟨b + 1, 3, none⟩ = some (.int .i64 n.tag) ∧ w.cell? ⟨b + 1, 4, none⟩ = some (.string n.data) := by
  refine ⟨?_, ?_, ?_, ?_, ?_, ?_, ?_⟩
  · rw [cell_of_row w b _ _ _ _ h.b0]; rfl
  · rw [cell_of_row w b _ _ _ _ h.b0]; rfl
  all_goals (rw [cell_of_row w (b + 1) _ _ _ _ h.b1]; rfl)
theorem Two.kept {w w' : World} {b bl bm : Nat} {n : Nd} (h : Two w b bl bm n) (h0 : w'.heap[b]? = w.heap[b]?) (h1 : w'.heap[b + 1]? = w.heap[b + 1]?) : Two w' b bl bm n := ⟨h0.trans h.b0, h1.trans h.b1⟩
theorem Two.below {w w' : World} {b bl bm : Nat} {n : Nd} (h : Two w b bl bm n) (hb : Below w.heap.size w w') : Two w' b bl bm n := h.kept (hb.block _ (lt_of_heap h.b0)) (hb.block _ (lt_of_heap h.b1))
theorem Two.alloc {w : World} {b bl bm : Nat} {n : Nd} (h : Two w b bl bm n) (o : Obj) : Two (w.alloc o) b bl bm n := h.below ((Below.refl _ w).alloc (Nat.le_refl _) o)

set_option maxRecDepth 100000 in
set_option maxHeartbeats 6400000 in
theorem wput_any {K : Kp} (w0 w : World) (B bl bd bs : Nat) (pv0 pv lv : Value) (ps : List (Nat × ByteArray)) (d : Dk) (bm : Nat) (ev : Value) (M : List Pl) (n : Nd) (tx : Tx K w0 w B bl bd bs pv0 pv lv ps d bm ev M) (hord : Ord M) (hM : M.length ≤ 60) (hsl : ∀ p ∈ M, p.slot < 60)
    (hn : d.safe.length ≤ 4096) (hn3 : 300 ≤ d.safe.length) (hp : ps.length ≤ 78) (hk : 0 ≤ n.kind ∧ n.kind < 256) (hm : 0 ≤ n.mode ∧ n.mode < 512) (htg : 0 ≤ n.tag ∧ n.tag < 256) (hpz : n.path.size ≤ 60) (hdz : n.data.size ≤ 400) :
    Calls Tryz.prog 153 #[wkV bl bm, ndV n] w (PutPost K w0 B bl bd bs pv0 pv lv ps d bm ev M n) := by
  obtain ⟨W, hW⟩ : ∃ W, W = (w.alloc (.cells #[.pointer (some ⟨bl, 0, none⟩), .pointer (some ⟨bm, 0, none⟩)] 186)).alloc (.cells #[.string n.path, .int .i64 n.kind, .int .i64 n.mode, .int .i64 n.tag, .string n.data] 76) := ⟨_, rfl⟩
  have hB0 : Below w.heap.size w W := by rw [hW]; exact ((Below.refl _ w).alloc (Nat.le_refl _) _).alloc (by simp) _
  have two : Two W w.heap.size bl bm n := by
    rw [hW]
    exact ⟨(Below.heap_alloc _ _ _ (by simp)).trans (heap_alloc_new w _), heap_two' w _ _⟩
  have tx0 := tx.below hB0
  have hlt := tx.map.lt
  have hevl : ∀ g, ev.ownBlock = some g → g < w.heap.size := fun g hg => (tx.map.row.lt g hg).2
  obtain ⟨c0, c1, m0, m1, m2, m3, m4⟩ := two.cells
  have hck := checkParent_any W w0.heap.size bl bm ev M n.path tx0.map hord (by omega) (by omega)
  obtain ⟨ck, hcke⟩ : ∃ ck, ck = chk M n.path := ⟨_, rfl⟩
  have hpe : putErr M n = if ck ≠ 0 then ck else match getM M n.path with
    | some old => if old.node.kind ≠ n.kind then 6 else 0
    | none => if 60 ≤ M.length then 8 else 0 := by rw [hcke]; rfl
  rw [← hcke] at hck
  clear hcke
  unfold wkV at hck ⊢
  unfold ndV
  have HCK := hide hck
  clear hck
  by_cases hc0 : ck = 0
  case neg =>
    have HPE := hide (hpe.trans (if_pos hc0))
    clear hpe
    have hcb : (ck == 0) = false := by simpa using hc0
    have HC0 := hide hc0
    clear hc0
    go_enter Tryz.func153, Tryz.ntmps153
    go_wp2_with fail
    rw [← hW]
    refine (unhide HCK).mono ?_
    rintro e w1 ⟨rfl, hb1⟩
    go_wp2_with fail
    go_ret
    exact ⟨by rw [unhide HPE]; rfl, .inl ⟨by rw [unhide HPE]; exact unhide HC0, tx0.below hb1⟩⟩
  case pos =>
    have hpe2 := hpe.trans (if_neg (by simpa using hc0))
    clear hpe
    subst hc0
    cases hgm : getM M n.path with
    | none =>
      rw [hgm] at hpe2
      dsimp only at hpe2
      by_cases h60 : 60 ≤ M.length
      · have HPE := hide (hpe2.trans (if_pos h60))
        have h60' : (60 : Int) ≤ (M.length : Int) := by omega
        have HGM := hide hgm
        clear hpe2 hgm
        go_enter Tryz.func153, Tryz.ntmps153
        go_wp2_with fail
        rw [← hW]
        refine (unhide HCK).mono ?_
        rintro e w1 ⟨rfl, hb1⟩
        have tx1 := tx0.below hb1
        obtain ⟨c0, c1, m0, m1, m2, m3, m4⟩ := (two.below hb1).cells
        go_wp2_with fail
        refine (mget_any w1 w0.heap.size bm ev M n.path tx1.map hord (by omega)).mono ?_
        rintro e w2 ⟨rfl, hb2⟩
        rw [unhide HGM]
        unfold optPl zPl
        rw [show (none : Option Pl).isSome = false from rfl]
        have tx2 := (tx1.below hb2).below ((Below.refl _ w2).alloc (Nat.le_refl _) (.cells #[.int .i64 0, .string ⟨#[]⟩, .int .i64 0, .int .i64 0, .int .i64 0, .string ⟨#[]⟩] 148))
        obtain ⟨c0, c1, m0, m1, m2, m3, m4⟩ := (((two.below hb1).below hb2).alloc (.cells #[.int .i64 0, .string ⟨#[]⟩, .int .i64 0, .int .i64 0, .int .i64 0, .string ⟨#[]⟩] 148)).cells
        go_wp2_with fail
        refine (mlen_any _ w0.heap.size bm ev M tx2.map).mono ?_
        rintro e w3 ⟨rfl, rfl⟩
        go_wp2_with fail
        go_ret
        exact ⟨by rw [unhide HPE]; rfl, .inl ⟨by rw [unhide HPE]; decide, tx2⟩⟩
      · have HPE := hide (hpe2.trans (if_neg h60))
        have h60' : ¬ ((60 : Int) ≤ (M.length : Int)) := by omega
        have HGM := hide hgm
        clear hpe2 hgm
        go_enter Tryz.func153, Tryz.ntmps153
        go_wp2_with fail
        rw [← hW]
        refine (unhide HCK).mono ?_
        rintro e w1 ⟨rfl, hb1⟩
        have tx1 := tx0.below hb1
        obtain ⟨c0, c1, m0, m1, m2, m3, m4⟩ := (two.below hb1).cells
        go_wp2_with fail
        refine (mget_any w1 w0.heap.size bm ev M n.path tx1.map hord (by omega)).mono ?_
        rintro e w2 ⟨rfl, hb2⟩
        rw [unhide HGM]
        unfold optPl zPl
        rw [show (none : Option Pl).isSome = false from rfl]
        have tx2 := (tx1.below hb2).below ((Below.refl _ w2).alloc (Nat.le_refl _) (.cells #[.int .i64 0, .string ⟨#[]⟩, .int .i64 0, .int .i64 0, .int .i64 0, .string ⟨#[]⟩] 148))
        have two2 := ((two.below hb1).below hb2).alloc (.cells #[.int .i64 0, .string ⟨#[]⟩, .int .i64 0, .int .i64 0, .int .i64 0, .string ⟨#[]⟩] 148)
        obtain ⟨c0, c1, m0, m1, m2, m3, m4⟩ := two2.cells
        go_wp2_with fail
        refine (mlen_any _ w0.heap.size bm ev M tx2.map).mono ?_
        rintro e w3 ⟨rfl, rfl⟩
        go_wp2_with fail
        refine (freeSlot_any _ w0.heap.size bm ev M tx2.map hsl (by omega)).mono ?_
        rintro e w4 ⟨s, rfl, hs60, hfree, hb4⟩
        have tx4 := tx2.below hb4
        have two4 := two2.below hb4
        have HSF := hide (show SlotFor M n s from ⟨hs60, .inr ⟨unhide HGM, hfree⟩⟩)
        obtain ⟨c0, c1, m0, m1, m2, m3, m4⟩ := two4.cells
        have hput := mput_any w4 w0.heap.size bm ev M ⟨s, n⟩ tx4.map tx4.st.size hord (by omega)
        unfold plV at hput
        dsimp only at hput
        have HPUT := hide hput
        clear hput
        go_wp2_with fail
        refine (unhide HPUT).mono ?_
        rintro e w5 ⟨ev5, rfl, hM5, st5⟩
        have hbx : ∀ k, w.heap.size ≤ k → k < w4.heap.size → w5.heap[k]? = w4.heap[k]? := fun k hk1 hk2 => st5.block k hk2 (by omega) (by omega) (fun e => by have := hevl k e; omega)
        have two5 := two4.kept (hbx _ (Nat.le_refl _) (lt_of_heap two4.b0)) (hbx _ (by omega) (lt_of_heap two4.b1))
        have tx5 := tx4.turnMap hM5 st5
        obtain ⟨q0, q1, r0, r1, r2, r3, r4⟩ := two5.cells
        have hfill := fillSlot_any w5 B bl bd bs pv lv ps false d s n tx5.sys hn hn3 hp hs60 hk hm htg hpz hdz
        unfold ndV at hfill
        have HF := hide hfill
        have HTX := hide tx5
        clear hfill tx5
        go_wp2_with fail
        refine (unhide HF).mono ?_
        rintro e w6 ⟨pv6, rfl, s6, st6⟩
        go_wp2_with fail
        go_ret
        exact ⟨by rw [unhide HPE]; rfl, .inr ⟨unhide HPE, s, pv6, ev5, unhide HSF, (unhide HTX).turnLog s6 st6⟩⟩
    | some old =>
      rw [hgm] at hpe2
      dsimp only at hpe2
      by_cases hkd : old.node.kind = n.kind
      · have HPE := hide (hpe2.trans (if_neg (by simpa using hkd)))
        have hs60 : old.slot < 60 := hsl old (List.mem_of_find?_eq_some hgm)
        have HGM := hide hgm
        have HKD := hide hkd
        clear hpe2 hgm hkd
        go_enter Tryz.func153, Tryz.ntmps153
        go_wp2_with fail
        rw [← hW]
        refine (unhide HCK).mono ?_
        rintro e w1 ⟨rfl, hb1⟩
        have tx1 := tx0.below hb1
        obtain ⟨c0, c1, m0, m1, m2, m3, m4⟩ := (two.below hb1).cells
        go_wp2_with fail
        refine (mget_any w1 w0.heap.size bm ev M n.path tx1.map hord (by omega)).mono ?_
        rintro e w2 ⟨rfl, hb2⟩
        rw [unhide HGM, show optPl (some old) = .agg #[.int .i64 (old.slot : Int), .string old.node.path, .int .i64 n.kind, .int .i64 old.node.mode, .int .i64 old.node.tag, .string old.node.data] by simp only [optPl, plV, unhide HKD]]
        rw [show (some old : Option Pl).isSome = true from rfl]
        have tx4 := (tx1.below hb2).below ((Below.refl _ w2).alloc (Nat.le_refl _) (.cells #[.int .i64 (old.slot : Int), .string old.node.path, .int .i64 n.kind, .int .i64 old.node.mode, .int .i64 old.node.tag, .string old.node.data] 148))
        have two4 := ((two.below hb1).below hb2).alloc (.cells #[.int .i64 (old.slot : Int), .string old.node.path, .int .i64 n.kind, .int .i64 old.node.mode, .int .i64 old.node.tag, .string old.node.data] 148)
        have HSF := hide (show SlotFor M n old.slot from ⟨hs60, .inl ⟨old, unhide HGM, rfl⟩⟩)
        obtain ⟨c0, c1, m0, m1, m2, m3, m4⟩ := two4.cells
        have hput := mput_any (w2.alloc (.cells #[.int .i64 (old.slot : Int), .string old.node.path, .int .i64 n.kind, .int .i64 old.node.mode, .int .i64 old.node.tag, .string old.node.data] 148)) w0.heap.size bm ev M ⟨old.slot, n⟩ tx4.map tx4.st.size hord (by omega)
        unfold plV at hput
        dsimp only at hput
        have HPUT := hide hput
        clear hput
        go_wp2_with fail
        refine (unhide HPUT).mono ?_
        rintro e w5 ⟨ev5, rfl, hM5, st5⟩
        have hbx : ∀ k, w.heap.size ≤ k → k < (w2.alloc (.cells #[.int .i64 (old.slot : Int), .string old.node.path, .int .i64 n.kind, .int .i64 old.node.mode, .int .i64 old.node.tag, .string old.node.data] 148)).heap.size → w5.heap[k]? = (w2.alloc (.cells #[.int .i64 (old.slot : Int), .string old.node.path, .int .i64 n.kind, .int .i64 old.node.mode, .int .i64 old.node.tag, .string old.node.data] 148)).heap[k]? := fun k hk1 hk2 => st5.block k hk2 (by omega) (by omega) (fun e => by have := hevl k e; omega)
        have two5 := two4.kept (hbx _ (Nat.le_refl _) (lt_of_heap two4.b0)) (hbx _ (by omega) (lt_of_heap two4.b1))
        have tx5 := tx4.turnMap hM5 st5
        obtain ⟨q0, q1, r0, r1, r2, r3, r4⟩ := two5.cells
        have hfill := fillSlot_any w5 B bl bd bs pv lv ps false d old.slot n tx5.sys hn hn3 hp hs60 hk hm htg hpz hdz
        unfold ndV at hfill
        have HF := hide hfill
        have HTX := hide tx5
        clear hfill tx5
        go_wp2_with fail
        refine (unhide HF).mono ?_
        rintro e w6 ⟨pv6, rfl, s6, st6⟩
        go_wp2_with fail
        go_ret
        exact ⟨by rw [unhide HPE]; rfl, .inr ⟨unhide HPE, old.slot, pv6, ev5, unhide HSF, (unhide HTX).turnLog s6 st6⟩⟩
      · have HPE := hide (hpe2.trans (if_pos (by simpa using hkd)))
        have hkb : (old.node.kind == n.kind) = false := by simpa using hkd
        have HGM := hide hgm
        clear hpe2 hgm hkd
        go_enter Tryz.func153, Tryz.ntmps153
        go_wp2_with fail
        rw [← hW]
        refine (unhide HCK).mono ?_
        rintro e w1 ⟨rfl, hb1⟩
        have tx1 := tx0.below hb1
        obtain ⟨c0, c1, m0, m1, m2, m3, m4⟩ := (two.below hb1).cells
        go_wp2_with fail
        refine (mget_any w1 w0.heap.size bm ev M n.path tx1.map hord (by omega)).mono ?_
        rintro e w2 ⟨rfl, hb2⟩
        rw [unhide HGM]
        unfold optPl plV
        rw [show (some old : Option Pl).isSome = true from rfl]
        have tx4 := (tx1.below hb2).below ((Below.refl _ w2).alloc (Nat.le_refl _) (.cells #[.int .i64 (old.slot : Int), .string old.node.path, .int .i64 old.node.kind, .int .i64 old.node.mode, .int .i64 old.node.tag, .string old.node.data] 148))
        have two4 := ((two.below hb1).below hb2).alloc (.cells #[.int .i64 (old.slot : Int), .string old.node.path, .int .i64 old.node.kind, .int .i64 old.node.mode, .int .i64 old.node.tag, .string old.node.data] 148)
        obtain ⟨c0, c1, m0, m1, m2, m3, m4⟩ := two4.cells
        go_wp2_with fail
        go_ret
        exact ⟨by rw [unhide HPE]; rfl, .inl ⟨by rw [unhide HPE]; decide, tx4⟩⟩
end Go.Proofs.YtcbindgpbeaebaaGreatDoor
